import PyProof.Rows.All
import Wide.All
import OpenK.AllK
import Wide.FinOn
import Lean
import PyProof.EqAt
import PyProof.EqKinds
import PyProof.TupleCall
import PyProof.ZipIter
import PyProof.ConsumeS
import PyProof.StrCalls2
import PyProof.StrWalks
import PyProof.SliceStr2
import PyProof.StrBlock
import PyProof.StrBlockL
import PyProof.ListIndex
import PyProof.StrLawsTight
import PyProof.StrLawsChain
import PyProof.StrLaws
import PyProof.StrLawsFirst
import PyProof.StationsW
import PyProof.ExcClass3
import PyProof.NsDelKeeps
import PyProof.RulesAs
import PyProof.ExcBaseAll.ValueError
import PyProof.ExcArgsOwn
import PyProof.ExcAttrAll.ValueError
import KE.KTryMore
import KE.RegKTryMore
import KE.RegKIsAll
import PyProof.Rows.Range3
import PyProof.Rows.SumGenD
import PyProof.Rows.RuleM_int
import PyProof.EnumMake
import PyProof.EnumFor
import PyProof.EnumStmt
import PyProof.Rows.EnumRows
import KE.KRevIter
import PyProof.ListNew
import PyProof.CollectIter
import PyProof.ListRange
import PyProof.CallStr
import PyProof.StrBlock2
import PyProof.Rows.StrMadeLen
import PyProof.Rows.SetFrom
import PyProof.SetRoads
import PyProof.MeetsStr2
import KE.KRevSl
import PyProof.Conv_int
import PyProof.WalkInts
import PyProof.Rows.SeqMore
import PyProof.ExcInit
import PyProof.InstStoreFacts
import Open.Tops
import PySem.Challenge.RW_cluemaker_k41_where_a_book_is_refused
set_option Elab.async false
section
open PySem PySem.W PyProof.Rows
set_option Elab.async false
set_option maxRecDepth 100000
set_option maxHeartbeats 0
section
local macro_rules|`(universe $x)=>do
 let mut a:=#[`PySem.Challenge.rw_cluemaker_k41_where_a_book_is_refused,`PySem.Challenge.pw_cluemaker_k41_where_a_book_is_refused]
 for i in [0:1212] do a:=a.push (x.getId.str s!"o_{i}")
 for g in ["env 1","sts 4 28 44 60 76 92 108 124 140 156 207 295 356 437 508 591 620 703 726 756 784 814 837 867 888 922 989 1060 1137","tree 4 26 42 58 74 90 106 122 138 154 205 293 352 435 506 589 618 701 724 754 782 812 835 865 886 920 987 1058 1135 1211"] do
  let l:=g.splitOn " "
  for i in l.tail! do a:=a.push (x.getId.str (l.head!++"_"++i))
 return Lean.mkNullNode (<-a.mapM fun n=>do return (<-`(theorem $(Lean.mkIdent (.mkStr4 "PySem" "W" "Fast" s!"tw{n.hash}")):ident:True:=trivial)).raw)
universe PySem.Challenge.s9
end
theorem H9.sa9 (h : PySem.Challenge.rw_cluemaker_k41_where_a_book_is_refused.row.wellSaid = true → PySem.Challenge.rw_cluemaker_k41_where_a_book_is_refused.row.Holds) : PySem.Challenge.rw_cluemaker_k41_where_a_book_is_refused.Holds := by
  w_on; o_law
  exact h (by assumption)
open_shared PySem.Challenge.s9 for PySem.Challenge.pw_cluemaker_k41_where_a_book_is_refused leaving 0
namespace H9
open PySem.Challenge
noncomputable abbrev p9 : Program := PySem.Challenge.pw_cluemaker_k41_where_a_book_is_refused
noncomputable abbrev r9 : PySem.W.OpenRow := PySem.Challenge.rw_cluemaker_k41_where_a_book_is_refused.row
noncomputable abbrev c9 : Code := Code.body (behindTheImports p9) s9.env_1
noncomputable abbrev o9 : Pos := ⟨0, 0, 0, 0⟩
noncomputable abbrev Sb (w : World) (os : OsState) : Shared := (⟨s9.tree_4 w.params, 15, {}, ⟨[]⟩, {}, 187, os⟩ : SharedT).abs
noncomputable abbrev Sk (w : World) (os : OsState) : Shared := (⟨s9.tree_1211 w.params, 1117, {}, ⟨[]⟩, {}, 1759, os⟩ : SharedT).abs
theorem obs9 {t : BT} {n : Nat} {l : Life} {as : List Addr} : ∀ {K : List (Addr × Obj)}, K.map (fun p => (Nat.blt p.1 n, t.get p.1, alive p.2)) = K.map (fun p => (true, some p.2, some p.2)) → as = K.map (·.1) → as.map (absHeap t n l).get? = K.map fun p => some p.2
  | K, h, e => by
    subst e
    rw [List.map_map]
    refine List.map_congr_left fun p hp => ?_
    have := List.map_inj_left.mp h p hp
    simp only [Prod.mk.injEq] at this
    obtain ⟨h1, h2, h3⟩ := this
    exact (abs_get (Nat.le_of_ble_eq_true h1) h2).trans h3
theorem pre9 (w : World) (os : OsState) : topGo treeTable p9 w 11 (some (Value.ref 6)) 12 ⟨boot_heap w.params, ⟨[]⟩, boot_drawn, boot_toks, os⟩ (topStub p9) = some (Sb w os, ⟨denote treeTable c9, c9, o9, [topFrame o9]⟩) := by kernel_rfl
theorem blk9 (w : World) (os : OsState) : segRun treeTable p9 w 11 (some (Value.ref 6)) 1 1 (Sb w os) (blockOf (behindTheImports p9) s9.env_1 c9 o9 [topFrame o9]) = some (.next, Sb w os, c9, o9) := by kernel_rfl
theorem fin9 (w : World) (os : OsState) : topRun treeTable p9 w 11 (some (Value.ref 6)) 2 (Sk w os) ⟨doneF .next, c9, { line := 759, col := 0, endLine := 779, endCol := 15 }, [topFrame o9]⟩ = some (Sk w os) := by kernel_rfl
theorem bod9 : behindTheImports p9 = s9.sts_4 ++ (s9.sts_28 ++ (s9.sts_44 ++ (s9.sts_60 ++ (s9.sts_76 ++ (s9.sts_92 ++ (s9.sts_108 ++ (s9.sts_124 ++ (s9.sts_140 ++ (s9.sts_156 ++ (s9.sts_207 ++ (s9.sts_295 ++ (s9.sts_356 ++ (s9.sts_437 ++ (s9.sts_508 ++ (s9.sts_591 ++ (s9.sts_620 ++ (s9.sts_703 ++ (s9.sts_726 ++ (s9.sts_756 ++ (s9.sts_784 ++ (s9.sts_814 ++ (s9.sts_837 ++ (s9.sts_867 ++ (s9.sts_888 ++ (s9.sts_922 ++ (s9.sts_989 ++ (s9.sts_1060 ++ (s9.sts_1137 ++ [])))))))))))))))))))))))))))) := by kernel_rfl
theorem run9 (w : World) (os : OsState) : topRun treeTable p9 w 11 (some (Value.ref 6)) (12 + (1 + (225 + (214 + (214 + (214 + (214 + (214 + (214 + (214 + (214 + (401 + (399 + (401 + (400 + (379 + (396 + (133 + (505 + (246 + (276 + (272 + (279 + (245 + (277 + (241 + (385 + (319 + (444 + (375 + (364 + 2))))))))))))))))))))))))))))))) ⟨boot_heap w.params, ⟨[]⟩, boot_drawn, boot_toks, os⟩ (topStub p9) = some (Sk w os) :=
  go_top (pre9 w os) (piece_block (blk9 w os) (bod9 ▸ s9.chain p9 (behindTheImports p9) w os [] 2 _ (piece_nil (fin9 w os))))
noncomputable def q9 : Program := view p9 [147]
noncomputable def l9 : List Str := (p9.main.scope.names.map (·.1)).filter fun n => !(n == Str.ofString "law")
noncomputable def H1 (P : Params) : Heap := absHeap (s9.tree_1211 P) 1117 {}
noncomputable abbrev T9 (w : World) (os : OsState) : Shared := ⟨H1 w.params, ⟨[]⟩, {}, 1759, os⟩
noncomputable def K9 : Params → PySem.W.Frag := fun P => (nat_lit 2,boot_o_2 P)::(nat_lit 3,s9.o_1137 P)::(nat_lit 15,s9.o_7 P)::(nat_lit 17,s9.o_9 P)::(nat_lit 18,s9.o_10 P)::(nat_lit 20,s9.o_12 P)::(nat_lit 21,s9.o_13 P)::(nat_lit 22,s9.o_14 P)::(nat_lit 29,s9.o_21 P)::(nat_lit 30,s9.o_22 P)::(nat_lit 31,s9.o_158 P)::(nat_lit 32,s9.o_24 P)::(nat_lit 35,s9.o_31 P)::(nat_lit 42,s9.o_38 P)::(nat_lit 43,s9.o_39 P)::(nat_lit 44,s9.o_40 P)::(nat_lit 47,s9.o_47 P)::(nat_lit 54,s9.o_54 P)::(nat_lit 55,s9.o_55 P)::(nat_lit 56,s9.o_56 P)::(nat_lit 59,s9.o_63 P)::(nat_lit 66,s9.o_70 P)::(nat_lit 67,s9.o_71 P)::(nat_lit 68,s9.o_72 P)::(nat_lit 71,s9.o_79 P)::(nat_lit 78,s9.o_86 P)::(nat_lit 79,s9.o_87 P)::(nat_lit 80,s9.o_88 P)::(nat_lit 83,s9.o_95 P)::(nat_lit 90,s9.o_102 P)::(nat_lit 91,s9.o_103 P)::(nat_lit 92,s9.o_104 P)::(nat_lit 95,s9.o_111 P)::(nat_lit 102,s9.o_118 P)::(nat_lit 103,s9.o_119 P)::(nat_lit 104,s9.o_120 P)::(nat_lit 107,s9.o_127 P)::(nat_lit 114,s9.o_134 P)::(nat_lit 115,s9.o_135 P)::(nat_lit 116,s9.o_136 P)::(nat_lit 119,s9.o_143 P)::(nat_lit 126,s9.o_150 P)::(nat_lit 127,s9.o_151 P)::(nat_lit 128,s9.o_152 P)::(nat_lit 131,s9.o_159 P)::(nat_lit 138,s9.o_166 P)::(nat_lit 140,s9.o_168 P)::(nat_lit 141,s9.o_169 P)::(nat_lit 143,s9.o_171 P)::(nat_lit 144,s9.o_172 P)::(nat_lit 145,s9.o_173 P)::(nat_lit 146,s9.o_174 P)::(nat_lit 147,s9.o_175 P)::(nat_lit 150,s9.o_178 P)::(nat_lit 152,s9.o_180 P)::(nat_lit 153,s9.o_181 P)::(nat_lit 155,s9.o_183 P)::(nat_lit 156,s9.o_184 P)::(nat_lit 157,s9.o_185 P)::(nat_lit 159,s9.o_187 P)::(nat_lit 160,s9.o_188 P)::(nat_lit 162,s9.o_190 P)::(nat_lit 163,s9.o_191 P)::(nat_lit 164,s9.o_192 P)::(nat_lit 166,s9.o_194 P)::(nat_lit 167,s9.o_195 P)::(nat_lit 169,s9.o_197 P)::(nat_lit 170,s9.o_198 P)::(nat_lit 171,s9.o_199 P)::(nat_lit 173,s9.o_201 P)::(nat_lit 174,s9.o_202 P)::(nat_lit 176,s9.o_204 P)::(nat_lit 177,s9.o_205 P)::(nat_lit 178,s9.o_209 P)::(nat_lit 180,s9.o_211 P)::(nat_lit 181,s9.o_212 P)::(nat_lit 183,s9.o_214 P)::(nat_lit 184,s9.o_215 P)::(nat_lit 185,s9.o_216 P)::(nat_lit 187,s9.o_218 P)::(nat_lit 188,s9.o_219 P)::(nat_lit 190,s9.o_221 P)::(nat_lit 191,s9.o_222 P)::(nat_lit 192,s9.o_223 P)::(nat_lit 194,s9.o_225 P)::(nat_lit 195,s9.o_226 P)::(nat_lit 197,s9.o_228 P)::(nat_lit 198,s9.o_229 P)::(nat_lit 199,s9.o_230 P)::(nat_lit 201,s9.o_232 P)::(nat_lit 202,s9.o_233 P)::(nat_lit 204,s9.o_235 P)::(nat_lit 205,s9.o_236 P)::(nat_lit 206,s9.o_237 P)::(nat_lit 209,s9.o_240 P)::(nat_lit 210,s9.o_241 P)::(nat_lit 211,s9.o_242 P)::(nat_lit 213,s9.o_244 P)::(nat_lit 214,s9.o_245 P)::(nat_lit 216,s9.o_247 P)::(nat_lit 217,s9.o_248 P)::(nat_lit 218,s9.o_249 P)::(nat_lit 220,s9.o_251 P)::(nat_lit 221,s9.o_252 P)::(nat_lit 223,s9.o_254 P)::(nat_lit 224,s9.o_255 P)::(nat_lit 225,s9.o_256 P)::(nat_lit 227,s9.o_258 P)::(nat_lit 228,s9.o_259 P)::(nat_lit 230,s9.o_261 P)::(nat_lit 231,s9.o_262 P)::(nat_lit 232,s9.o_263 P)::(nat_lit 234,s9.o_265 P)::(nat_lit 235,s9.o_266 P)::(nat_lit 237,s9.o_268 P)::(nat_lit 238,s9.o_269 P)::(nat_lit 239,s9.o_270 P)::(nat_lit 241,s9.o_272 P)::(nat_lit 242,s9.o_273 P)::(nat_lit 244,s9.o_275 P)::(nat_lit 245,s9.o_276 P)::(nat_lit 246,s9.o_277 P)::(nat_lit 249,s9.o_280 P)::(nat_lit 250,s9.o_281 P)::(nat_lit 251,s9.o_282 P)::(nat_lit 254,s9.o_285 P)::(nat_lit 255,s9.o_286 P)::(nat_lit 256,s9.o_287 P)::(nat_lit 258,s9.o_289 P)::(nat_lit 259,s9.o_290 P)::(nat_lit 261,s9.o_292 P)::(nat_lit 262,s9.o_293 P)::(nat_lit 263,s9.o_297 P)::(nat_lit 265,s9.o_299 P)::(nat_lit 266,s9.o_300 P)::(nat_lit 268,s9.o_302 P)::(nat_lit 269,s9.o_303 P)::(nat_lit 270,s9.o_304 P)::(nat_lit 271,s9.o_305 P)::(nat_lit 272,s9.o_306 P)::(nat_lit 273,s9.o_307 P)::(nat_lit 274,s9.o_308 P)::(nat_lit 275,s9.o_309 P)::(nat_lit 276,s9.o_310 P)::(nat_lit 277,s9.o_311 P)::(nat_lit 278,s9.o_312 P)::(nat_lit 279,s9.o_313 P)::(nat_lit 280,s9.o_314 P)::(nat_lit 281,s9.o_315 P)::(nat_lit 283,s9.o_317 P)::(nat_lit 284,s9.o_318 P)::(nat_lit 286,s9.o_320 P)::(nat_lit 287,s9.o_321 P)::(nat_lit 288,s9.o_322 P)::(nat_lit 290,s9.o_324 P)::(nat_lit 291,s9.o_325 P)::(nat_lit 293,s9.o_327 P)::(nat_lit 294,s9.o_328 P)::(nat_lit 295,s9.o_329 P)::(nat_lit 297,s9.o_331 P)::(nat_lit 298,s9.o_332 P)::(nat_lit 300,s9.o_334 P)::(nat_lit 301,s9.o_335 P)::(nat_lit 302,s9.o_336 P)::(nat_lit 304,s9.o_338 P)::(nat_lit 305,s9.o_339 P)::(nat_lit 307,s9.o_341 P)::(nat_lit 308,s9.o_342 P)::(nat_lit 309,s9.o_343 P)::(nat_lit 312,s9.o_346 P)::(nat_lit 313,s9.o_347 P)::(nat_lit 314,s9.o_348 P)::(nat_lit 317,s9.o_351 P)::(nat_lit 318,s9.o_352 P)::(nat_lit 319,s9.o_358 P)::(nat_lit 322,s9.o_361 P)::(nat_lit 323,s9.o_362 P)::(nat_lit 324,s9.o_363 P)::(nat_lit 327,s9.o_366 P)::(nat_lit 328,s9.o_367 P)::(nat_lit 329,s9.o_368 P)::(nat_lit 332,s9.o_371 P)::(nat_lit 333,s9.o_372 P)::(nat_lit 334,s9.o_373 P)::(nat_lit 335,s9.o_374 P)::(nat_lit 337,s9.o_376 P)::(nat_lit 338,s9.o_377 P)::(nat_lit 340,s9.o_379 P)::(nat_lit 341,s9.o_380 P)::(nat_lit 342,s9.o_381 P)::(nat_lit 344,s9.o_383 P)::(nat_lit 345,s9.o_384 P)::(nat_lit 347,s9.o_386 P)::(nat_lit 348,s9.o_387 P)::(nat_lit 349,s9.o_388 P)::(nat_lit 351,s9.o_390 P)::(nat_lit 352,s9.o_391 P)::(nat_lit 354,s9.o_393 P)::(nat_lit 355,s9.o_394 P)::(nat_lit 356,s9.o_395 P)::(nat_lit 358,s9.o_397 P)::(nat_lit 359,s9.o_398 P)::(nat_lit 361,s9.o_400 P)::(nat_lit 362,s9.o_401 P)::(nat_lit 363,s9.o_402 P)::(nat_lit 365,s9.o_404 P)::(nat_lit 366,s9.o_405 P)::(nat_lit 368,s9.o_407 P)::(nat_lit 369,s9.o_408 P)::(nat_lit 370,s9.o_409 P)::(nat_lit 373,s9.o_412 P)::(nat_lit 374,s9.o_413 P)::(nat_lit 375,s9.o_414 P)::(nat_lit 378,s9.o_417 P)::(nat_lit 379,s9.o_418 P)::(nat_lit 380,s9.o_419 P)::(nat_lit 383,s9.o_422 P)::(nat_lit 384,s9.o_423 P)::(nat_lit 385,s9.o_424 P)::(nat_lit 387,s9.o_426 P)::(nat_lit 388,s9.o_427 P)::(nat_lit 390,s9.o_429 P)::(nat_lit 391,s9.o_430 P)::(nat_lit 392,s9.o_431 P)::(nat_lit 395,s9.o_434 P)::(nat_lit 396,s9.o_435 P)::(nat_lit 397,s9.o_439 P)::(nat_lit 399,s9.o_441 P)::(nat_lit 400,s9.o_442 P)::(nat_lit 402,s9.o_444 P)::(nat_lit 403,s9.o_445 P)::(nat_lit 404,s9.o_446 P)::(nat_lit 405,s9.o_447 P)::(nat_lit 407,s9.o_449 P)::(nat_lit 408,s9.o_450 P)::(nat_lit 410,s9.o_452 P)::(nat_lit 411,s9.o_453 P)::(nat_lit 412,s9.o_454 P)::(nat_lit 415,s9.o_457 P)::(nat_lit 416,s9.o_458 P)::(nat_lit 417,s9.o_459 P)::(nat_lit 420,s9.o_462 P)::(nat_lit 421,s9.o_463 P)::(nat_lit 422,s9.o_464 P)::(nat_lit 425,s9.o_467 P)::(nat_lit 426,s9.o_468 P)::(nat_lit 427,s9.o_469 P)::(nat_lit 429,s9.o_471 P)::(nat_lit 430,s9.o_472 P)::(nat_lit 432,s9.o_474 P)::(nat_lit 433,s9.o_475 P)::(nat_lit 434,s9.o_476 P)::(nat_lit 436,s9.o_478 P)::(nat_lit 437,s9.o_479 P)::(nat_lit 439,s9.o_481 P)::(nat_lit 440,s9.o_482 P)::(nat_lit 441,s9.o_483 P)::(nat_lit 444,s9.o_486 P)::(nat_lit 445,s9.o_487 P)::(nat_lit 446,s9.o_488 P)::(nat_lit 448,s9.o_490 P)::(nat_lit 449,s9.o_491 P)::(nat_lit 451,s9.o_493 P)::(nat_lit 452,s9.o_494 P)::(nat_lit 453,s9.o_495 P)::(nat_lit 455,s9.o_497 P)::(nat_lit 456,s9.o_498 P)::(nat_lit 458,s9.o_500 P)::(nat_lit 459,s9.o_501 P)::(nat_lit 460,s9.o_502 P)::(nat_lit 463,s9.o_505 P)::(nat_lit 464,s9.o_506 P)::(nat_lit 465,s9.o_510 P)::(nat_lit 468,s9.o_513 P)::(nat_lit 469,s9.o_514 P)::(nat_lit 470,s9.o_515 P)::(nat_lit 472,s9.o_517 P)::(nat_lit 473,s9.o_518 P)::(nat_lit 475,s9.o_520 P)::(nat_lit 476,s9.o_521 P)::(nat_lit 477,s9.o_522 P)::(nat_lit 479,s9.o_524 P)::(nat_lit 480,s9.o_525 P)::(nat_lit 482,s9.o_527 P)::(nat_lit 483,s9.o_528 P)::(nat_lit 484,s9.o_529 P)::(nat_lit 486,s9.o_531 P)::(nat_lit 487,s9.o_532 P)::(nat_lit 489,s9.o_534 P)::(nat_lit 490,s9.o_535 P)::(nat_lit 491,s9.o_536 P)::(nat_lit 493,s9.o_538 P)::(nat_lit 494,s9.o_539 P)::(nat_lit 496,s9.o_541 P)::(nat_lit 497,s9.o_542 P)::(nat_lit 498,s9.o_543 P)::(nat_lit 500,s9.o_545 P)::(nat_lit 501,s9.o_546 P)::(nat_lit 503,s9.o_548 P)::(nat_lit 504,s9.o_549 P)::(nat_lit 505,s9.o_550 P)::(nat_lit 507,s9.o_552 P)::(nat_lit 508,s9.o_553 P)::(nat_lit 510,s9.o_555 P)::(nat_lit 511,s9.o_556 P)::(nat_lit 512,s9.o_557 P)::(nat_lit 514,s9.o_559 P)::(nat_lit 515,s9.o_560 P)::(nat_lit 517,s9.o_562 P)::(nat_lit 518,s9.o_563 P)::(nat_lit 519,s9.o_564 P)::(nat_lit 521,s9.o_566 P)::(nat_lit 522,s9.o_567 P)::(nat_lit 524,s9.o_569 P)::(nat_lit 525,s9.o_570 P)::(nat_lit 526,s9.o_571 P)::(nat_lit 529,s9.o_574 P)::(nat_lit 530,s9.o_575 P)::(nat_lit 531,s9.o_576 P)::(nat_lit 533,s9.o_578 P)::(nat_lit 534,s9.o_579 P)::(nat_lit 536,s9.o_581 P)::(nat_lit 537,s9.o_582 P)::(nat_lit 538,s9.o_583 P)::(nat_lit 540,s9.o_585 P)::(nat_lit 541,s9.o_586 P)::(nat_lit 543,s9.o_588 P)::(nat_lit 544,s9.o_589 P)::(nat_lit 545,s9.o_593 P)::(nat_lit 547,s9.o_595 P)::(nat_lit 548,s9.o_596 P)::(nat_lit 550,s9.o_598 P)::(nat_lit 551,s9.o_599 P)::(nat_lit 552,s9.o_600 P)::(nat_lit 554,s9.o_602 P)::(nat_lit 555,s9.o_603 P)::(nat_lit 557,s9.o_605 P)::(nat_lit 558,s9.o_606 P)::(nat_lit 559,s9.o_607 P)::(nat_lit 561,s9.o_609 P)::(nat_lit 562,s9.o_610 P)::(nat_lit 564,s9.o_612 P)::(nat_lit 565,s9.o_613 P)::(nat_lit 566,s9.o_614 P)::(nat_lit 569,s9.o_617 P)::(nat_lit 570,s9.o_618 P)::(nat_lit 578,s9.o_629 P)::(nat_lit 580,s9.o_631 P)::(nat_lit 581,s9.o_632 P)::(nat_lit 583,s9.o_634 P)::(nat_lit 584,s9.o_635 P)::(nat_lit 585,s9.o_636 P)::(nat_lit 587,s9.o_638 P)::(nat_lit 588,s9.o_639 P)::(nat_lit 590,s9.o_641 P)::(nat_lit 591,s9.o_642 P)::(nat_lit 592,s9.o_643 P)::(nat_lit 594,s9.o_645 P)::(nat_lit 595,s9.o_646 P)::(nat_lit 597,s9.o_648 P)::(nat_lit 598,s9.o_649 P)::(nat_lit 599,s9.o_650 P)::(nat_lit 601,s9.o_652 P)::(nat_lit 602,s9.o_653 P)::(nat_lit 604,s9.o_655 P)::(nat_lit 605,s9.o_656 P)::(nat_lit 606,s9.o_657 P)::(nat_lit 608,s9.o_659 P)::(nat_lit 609,s9.o_660 P)::(nat_lit 611,s9.o_662 P)::(nat_lit 612,s9.o_663 P)::(nat_lit 613,s9.o_664 P)::(nat_lit 615,s9.o_666 P)::(nat_lit 616,s9.o_667 P)::(nat_lit 618,s9.o_669 P)::(nat_lit 619,s9.o_670 P)::(nat_lit 620,s9.o_671 P)::(nat_lit 622,s9.o_673 P)::(nat_lit 623,s9.o_674 P)::(nat_lit 625,s9.o_676 P)::(nat_lit 626,s9.o_677 P)::(nat_lit 627,s9.o_678 P)::(nat_lit 629,s9.o_680 P)::(nat_lit 630,s9.o_681 P)::(nat_lit 632,s9.o_683 P)::(nat_lit 633,s9.o_684 P)::(nat_lit 634,s9.o_685 P)::(nat_lit 637,s9.o_688 P)::(nat_lit 638,s9.o_689 P)::(nat_lit 639,s9.o_690 P)::(nat_lit 642,s9.o_693 P)::(nat_lit 643,s9.o_694 P)::(nat_lit 644,s9.o_695 P)::(nat_lit 645,s9.o_696 P)::(nat_lit 646,s9.o_869 P)::(nat_lit 647,s9.o_698 P)::(nat_lit 648,s9.o_699 P)::(nat_lit 651,s9.o_706 P)::(nat_lit 658,s9.o_713 P)::(nat_lit 660,s9.o_715 P)::(nat_lit 661,s9.o_716 P)::(nat_lit 663,s9.o_718 P)::(nat_lit 664,s9.o_719 P)::(nat_lit 665,s9.o_720 P)::(nat_lit 666,s9.o_721 P)::(nat_lit 667,s9.o_722 P)::(nat_lit 670,s9.o_729 P)::(nat_lit 677,s9.o_736 P)::(nat_lit 679,s9.o_738 P)::(nat_lit 680,s9.o_739 P)::(nat_lit 682,s9.o_741 P)::(nat_lit 683,s9.o_742 P)::(nat_lit 684,s9.o_743 P)::(nat_lit 686,s9.o_745 P)::(nat_lit 687,s9.o_746 P)::(nat_lit 689,s9.o_748 P)::(nat_lit 690,s9.o_749 P)::(nat_lit 691,s9.o_750 P)::(nat_lit 692,s9.o_751 P)::(nat_lit 693,s9.o_752 P)::(nat_lit 696,s9.o_759 P)::(nat_lit 703,s9.o_766 P)::(nat_lit 705,s9.o_768 P)::(nat_lit 706,s9.o_769 P)::(nat_lit 708,s9.o_771 P)::(nat_lit 709,s9.o_772 P)::(nat_lit 710,s9.o_773 P)::(nat_lit 713,s9.o_776 P)::(nat_lit 714,s9.o_777 P)::(nat_lit 715,s9.o_778 P)::(nat_lit 716,s9.o_779 P)::(nat_lit 717,s9.o_780 P)::(nat_lit 720,s9.o_787 P)::(nat_lit 727,s9.o_794 P)::(nat_lit 729,s9.o_796 P)::(nat_lit 730,s9.o_797 P)::(nat_lit 732,s9.o_799 P)::(nat_lit 733,s9.o_800 P)::(nat_lit 734,s9.o_801 P)::(nat_lit 736,s9.o_803 P)::(nat_lit 737,s9.o_804 P)::(nat_lit 739,s9.o_806 P)::(nat_lit 740,s9.o_807 P)::(nat_lit 741,s9.o_808 P)::(nat_lit 742,s9.o_809 P)::(nat_lit 743,s9.o_810 P)::(nat_lit 746,s9.o_817 P)::(nat_lit 753,s9.o_824 P)::(nat_lit 755,s9.o_826 P)::(nat_lit 756,s9.o_827 P)::(nat_lit 758,s9.o_829 P)::(nat_lit 759,s9.o_830 P)::(nat_lit 760,s9.o_831 P)::(nat_lit 761,s9.o_832 P)::(nat_lit 762,s9.o_833 P)::(nat_lit 765,s9.o_840 P)::(nat_lit 772,s9.o_847 P)::(nat_lit 774,s9.o_849 P)::(nat_lit 775,s9.o_850 P)::(nat_lit 777,s9.o_852 P)::(nat_lit 778,s9.o_853 P)::(nat_lit 779,s9.o_854 P)::(nat_lit 781,s9.o_856 P)::(nat_lit 782,s9.o_857 P)::(nat_lit 784,s9.o_859 P)::(nat_lit 785,s9.o_860 P)::(nat_lit 786,s9.o_861 P)::(nat_lit 787,s9.o_862 P)::(nat_lit 788,s9.o_890 P)::(nat_lit 791,s9.o_870 P)::(nat_lit 798,s9.o_877 P)::(nat_lit 801,s9.o_880 P)::(nat_lit 802,s9.o_881 P)::(nat_lit 803,s9.o_882 P)::(nat_lit 804,s9.o_883 P)::(nat_lit 805,s9.o_884 P)::(nat_lit 808,s9.o_891 P)::(nat_lit 815,s9.o_898 P)::(nat_lit 818,s9.o_901 P)::(nat_lit 819,s9.o_902 P)::(nat_lit 820,s9.o_903 P)::(nat_lit 823,s9.o_906 P)::(nat_lit 824,s9.o_907 P)::(nat_lit 825,s9.o_908 P)::(nat_lit 826,s9.o_909 P)::(nat_lit 827,s9.o_910 P)::(nat_lit 830,s9.o_913 P)::(nat_lit 831,s9.o_914 P)::(nat_lit 832,s9.o_915 P)::(nat_lit 833,s9.o_916 P)::(nat_lit 836,s9.o_919 P)::(nat_lit 837,s9.o_920 P)::(nat_lit 838,s9.o_924 P)::(nat_lit 840,s9.o_926 P)::(nat_lit 841,s9.o_927 P)::(nat_lit 843,s9.o_929 P)::(nat_lit 844,s9.o_930 P)::(nat_lit 845,s9.o_931 P)::(nat_lit 847,s9.o_933 P)::(nat_lit 848,s9.o_934 P)::(nat_lit 850,s9.o_936 P)::(nat_lit 851,s9.o_937 P)::(nat_lit 852,s9.o_938 P)::(nat_lit 855,s9.o_941 P)::(nat_lit 856,s9.o_942 P)::(nat_lit 857,s9.o_943 P)::(nat_lit 859,s9.o_945 P)::(nat_lit 860,s9.o_946 P)::(nat_lit 862,s9.o_948 P)::(nat_lit 863,s9.o_949 P)::(nat_lit 864,s9.o_950 P)::(nat_lit 866,s9.o_952 P)::(nat_lit 867,s9.o_953 P)::(nat_lit 869,s9.o_955 P)::(nat_lit 870,s9.o_956 P)::(nat_lit 871,s9.o_957 P)::(nat_lit 873,s9.o_959 P)::(nat_lit 874,s9.o_960 P)::(nat_lit 876,s9.o_962 P)::(nat_lit 877,s9.o_963 P)::(nat_lit 878,s9.o_964 P)::(nat_lit 880,s9.o_966 P)::(nat_lit 881,s9.o_967 P)::(nat_lit 883,s9.o_969 P)::(nat_lit 884,s9.o_970 P)::(nat_lit 885,s9.o_971 P)::(nat_lit 888,s9.o_974 P)::(nat_lit 889,s9.o_975 P)::(nat_lit 890,s9.o_976 P)::(nat_lit 893,s9.o_979 P)::(nat_lit 894,s9.o_980 P)::(nat_lit 895,s9.o_981 P)::(nat_lit 897,s9.o_983 P)::(nat_lit 898,s9.o_984 P)::(nat_lit 900,s9.o_986 P)::(nat_lit 901,s9.o_987 P)::(nat_lit 909,s9.o_998 P)::(nat_lit 911,s9.o_1000 P)::(nat_lit 912,s9.o_1001 P)::(nat_lit 914,s9.o_1003 P)::(nat_lit 915,s9.o_1004 P)::(nat_lit 916,s9.o_1005 P)::(nat_lit 918,s9.o_1007 P)::(nat_lit 919,s9.o_1008 P)::(nat_lit 921,s9.o_1010 P)::(nat_lit 922,s9.o_1011 P)::(nat_lit 923,s9.o_1012 P)::(nat_lit 926,s9.o_1015 P)::(nat_lit 927,s9.o_1016 P)::(nat_lit 928,s9.o_1017 P)::(nat_lit 930,s9.o_1019 P)::(nat_lit 931,s9.o_1020 P)::(nat_lit 933,s9.o_1022 P)::(nat_lit 934,s9.o_1023 P)::(nat_lit 935,s9.o_1024 P)::(nat_lit 937,s9.o_1026 P)::(nat_lit 938,s9.o_1027 P)::(nat_lit 940,s9.o_1029 P)::(nat_lit 941,s9.o_1030 P)::(nat_lit 942,s9.o_1031 P)::(nat_lit 944,s9.o_1033 P)::(nat_lit 945,s9.o_1034 P)::(nat_lit 947,s9.o_1036 P)::(nat_lit 948,s9.o_1037 P)::(nat_lit 949,s9.o_1038 P)::(nat_lit 951,s9.o_1040 P)::(nat_lit 952,s9.o_1041 P)::(nat_lit 954,s9.o_1043 P)::(nat_lit 955,s9.o_1044 P)::(nat_lit 956,s9.o_1045 P)::(nat_lit 958,s9.o_1047 P)::(nat_lit 959,s9.o_1048 P)::(nat_lit 961,s9.o_1050 P)::(nat_lit 962,s9.o_1051 P)::(nat_lit 963,s9.o_1052 P)::(nat_lit 964,s9.o_1053 P)::(nat_lit 965,s9.o_1054 P)::(nat_lit 966,s9.o_1055 P)::(nat_lit 967,s9.o_1056 P)::(nat_lit 970,s9.o_1062 P)::(nat_lit 972,s9.o_1064 P)::(nat_lit 973,s9.o_1065 P)::(nat_lit 975,s9.o_1067 P)::(nat_lit 976,s9.o_1068 P)::(nat_lit 977,s9.o_1069 P)::(nat_lit 979,s9.o_1071 P)::(nat_lit 980,s9.o_1072 P)::(nat_lit 982,s9.o_1074 P)::(nat_lit 983,s9.o_1075 P)::(nat_lit 984,s9.o_1076 P)::(nat_lit 986,s9.o_1078 P)::(nat_lit 987,s9.o_1079 P)::(nat_lit 989,s9.o_1081 P)::(nat_lit 990,s9.o_1082 P)::(nat_lit 991,s9.o_1083 P)::(nat_lit 994,s9.o_1086 P)::(nat_lit 995,s9.o_1087 P)::(nat_lit 996,s9.o_1088 P)::(nat_lit 999,s9.o_1091 P)::(nat_lit 1000,s9.o_1092 P)::(nat_lit 1001,s9.o_1093 P)::(nat_lit 1003,s9.o_1095 P)::(nat_lit 1004,s9.o_1096 P)::(nat_lit 1006,s9.o_1098 P)::(nat_lit 1007,s9.o_1099 P)::(nat_lit 1008,s9.o_1100 P)::(nat_lit 1010,s9.o_1102 P)::(nat_lit 1011,s9.o_1103 P)::(nat_lit 1013,s9.o_1105 P)::(nat_lit 1014,s9.o_1106 P)::(nat_lit 1015,s9.o_1107 P)::(nat_lit 1018,s9.o_1110 P)::(nat_lit 1019,s9.o_1111 P)::(nat_lit 1020,s9.o_1112 P)::(nat_lit 1023,s9.o_1115 P)::(nat_lit 1024,s9.o_1116 P)::(nat_lit 1025,s9.o_1117 P)::(nat_lit 1028,s9.o_1120 P)::(nat_lit 1029,s9.o_1121 P)::(nat_lit 1030,s9.o_1122 P)::(nat_lit 1032,s9.o_1124 P)::(nat_lit 1033,s9.o_1125 P)::(nat_lit 1035,s9.o_1127 P)::(nat_lit 1036,s9.o_1128 P)::(nat_lit 1037,s9.o_1129 P)::(nat_lit 1039,s9.o_1131 P)::(nat_lit 1040,s9.o_1132 P)::(nat_lit 1042,s9.o_1134 P)::(nat_lit 1043,s9.o_1135 P)::(nat_lit 1044,s9.o_1139 P)::(nat_lit 1046,s9.o_1141 P)::(nat_lit 1047,s9.o_1142 P)::(nat_lit 1049,s9.o_1144 P)::(nat_lit 1050,s9.o_1145 P)::(nat_lit 1051,s9.o_1146 P)::(nat_lit 1053,s9.o_1148 P)::(nat_lit 1054,s9.o_1149 P)::(nat_lit 1056,s9.o_1151 P)::(nat_lit 1057,s9.o_1152 P)::(nat_lit 1058,s9.o_1153 P)::(nat_lit 1060,s9.o_1155 P)::(nat_lit 1061,s9.o_1156 P)::(nat_lit 1063,s9.o_1158 P)::(nat_lit 1064,s9.o_1159 P)::(nat_lit 1065,s9.o_1160 P)::(nat_lit 1067,s9.o_1162 P)::(nat_lit 1068,s9.o_1163 P)::(nat_lit 1070,s9.o_1165 P)::(nat_lit 1071,s9.o_1166 P)::(nat_lit 1072,s9.o_1167 P)::(nat_lit 1074,s9.o_1169 P)::(nat_lit 1075,s9.o_1170 P)::(nat_lit 1077,s9.o_1172 P)::(nat_lit 1078,s9.o_1173 P)::(nat_lit 1079,s9.o_1174 P)::(nat_lit 1081,s9.o_1176 P)::(nat_lit 1082,s9.o_1177 P)::(nat_lit 1084,s9.o_1179 P)::(nat_lit 1085,s9.o_1180 P)::(nat_lit 1086,s9.o_1181 P)::(nat_lit 1089,s9.o_1184 P)::(nat_lit 1090,s9.o_1185 P)::(nat_lit 1091,s9.o_1186 P)::(nat_lit 1093,s9.o_1188 P)::(nat_lit 1094,s9.o_1189 P)::(nat_lit 1096,s9.o_1191 P)::(nat_lit 1097,s9.o_1192 P)::(nat_lit 1098,s9.o_1193 P)::(nat_lit 1100,s9.o_1195 P)::(nat_lit 1101,s9.o_1196 P)::(nat_lit 1103,s9.o_1198 P)::(nat_lit 1104,s9.o_1199 P)::(nat_lit 1105,s9.o_1200 P)::(nat_lit 1107,s9.o_1202 P)::(nat_lit 1108,s9.o_1203 P)::(nat_lit 1110,s9.o_1205 P)::(nat_lit 1111,s9.o_1206 P)::(nat_lit 1112,s9.o_1207 P)::(nat_lit 1115,s9.o_1210 P)::(nat_lit 1116,s9.o_1211 P)::[]
noncomputable def a9 : List Addr := [2, 3, 15, 17, 18, 20, 21, 22, 29, 30, 31, 32, 35, 42, 43, 44, 47, 54, 55, 56, 59, 66, 67, 68, 71, 78, 79, 80, 83, 90, 91, 92, 95, 102, 103, 104, 107, 114, 115, 116, 119, 126, 127, 128, 131, 138, 140, 141, 143, 144, 145, 146, 147, 150, 152, 153, 155, 156, 157, 159, 160, 162, 163, 164, 166, 167, 169, 170, 171, 173, 174, 176, 177, 178, 180, 181, 183, 184, 185, 187, 188, 190, 191, 192, 194, 195, 197, 198, 199, 201, 202, 204, 205, 206, 209, 210, 211, 213, 214, 216, 217, 218, 220, 221, 223, 224, 225, 227, 228, 230, 231, 232, 234, 235, 237, 238, 239, 241, 242, 244, 245, 246, 249, 250, 251, 254, 255, 256, 258, 259, 261, 262, 263, 265, 266, 268, 269, 270, 271, 272, 273, 274, 275, 276, 277, 278, 279, 280, 281, 283, 284, 286, 287, 288, 290, 291, 293, 294, 295, 297, 298, 300, 301, 302, 304, 305, 307, 308, 309, 312, 313, 314, 317, 318, 319, 322, 323, 324, 327, 328, 329, 332, 333, 334, 335, 337, 338, 340, 341, 342, 344, 345, 347, 348, 349, 351, 352, 354, 355, 356, 358, 359, 361, 362, 363, 365, 366, 368, 369, 370, 373, 374, 375, 378, 379, 380, 383, 384, 385, 387, 388, 390, 391, 392, 395, 396, 397, 399, 400, 402, 403, 404, 405, 407, 408, 410, 411, 412, 415, 416, 417, 420, 421, 422, 425, 426, 427, 429, 430, 432, 433, 434, 436, 437, 439, 440, 441, 444, 445, 446, 448, 449, 451, 452, 453, 455, 456, 458, 459, 460, 463, 464, 465, 468, 469, 470, 472, 473, 475, 476, 477, 479, 480, 482, 483, 484, 486, 487, 489, 490, 491, 493, 494, 496, 497, 498, 500, 501, 503, 504, 505, 507, 508, 510, 511, 512, 514, 515, 517, 518, 519, 521, 522, 524, 525, 526, 529, 530, 531, 533, 534, 536, 537, 538, 540, 541, 543, 544, 545, 547, 548, 550, 551, 552, 554, 555, 557, 558, 559, 561, 562, 564, 565, 566, 569, 570, 578, 580, 581, 583, 584, 585, 587, 588, 590, 591, 592, 594, 595, 597, 598, 599, 601, 602, 604, 605, 606, 608, 609, 611, 612, 613, 615, 616, 618, 619, 620, 622, 623, 625, 626, 627, 629, 630, 632, 633, 634, 637, 638, 639, 642, 643, 644, 645, 646, 647, 648, 651, 658, 660, 661, 663, 664, 665, 666, 667, 670, 677, 679, 680, 682, 683, 684, 686, 687, 689, 690, 691, 692, 693, 696, 703, 705, 706, 708, 709, 710, 713, 714, 715, 716, 717, 720, 727, 729, 730, 732, 733, 734, 736, 737, 739, 740, 741, 742, 743, 746, 753, 755, 756, 758, 759, 760, 761, 762, 765, 772, 774, 775, 777, 778, 779, 781, 782, 784, 785, 786, 787, 788, 791, 798, 801, 802, 803, 804, 805, 808, 815, 818, 819, 820, 823, 824, 825, 826, 827, 830, 831, 832, 833, 836, 837, 838, 840, 841, 843, 844, 845, 847, 848, 850, 851, 852, 855, 856, 857, 859, 860, 862, 863, 864, 866, 867, 869, 870, 871, 873, 874, 876, 877, 878, 880, 881, 883, 884, 885, 888, 889, 890, 893, 894, 895, 897, 898, 900, 901, 909, 911, 912, 914, 915, 916, 918, 919, 921, 922, 923, 926, 927, 928, 930, 931, 933, 934, 935, 937, 938, 940, 941, 942, 944, 945, 947, 948, 949, 951, 952, 954, 955, 956, 958, 959, 961, 962, 963, 964, 965, 966, 967, 970, 972, 973, 975, 976, 977, 979, 980, 982, 983, 984, 986, 987, 989, 990, 991, 994, 995, 996, 999, 1000, 1001, 1003, 1004, 1006, 1007, 1008, 1010, 1011, 1013, 1014, 1015, 1018, 1019, 1020, 1023, 1024, 1025, 1028, 1029, 1030, 1032, 1033, 1035, 1036, 1037, 1039, 1040, 1042, 1043, 1044, 1046, 1047, 1049, 1050, 1051, 1053, 1054, 1056, 1057, 1058, 1060, 1061, 1063, 1064, 1065, 1067, 1068, 1070, 1071, 1072, 1074, 1075, 1077, 1078, 1079, 1081, 1082, 1084, 1085, 1086, 1089, 1090, 1091, 1093, 1094, 1096, 1097, 1098, 1100, 1101, 1103, 1104, 1105, 1107, 1108, 1110, 1111, 1112, 1115, 1116]
noncomputable abbrev Xt9 (s : Shared) : Bool := xlAt q9 [] s && recOk (RowW.records r9.toRowW) s
theorem lk1 (w : World) (os : OsState) : (staticsOk (importedModules p9.main.body) (boot_heap w.params) (H1 w.params) && namesBound p9 (H1 w.params) && gensDone (T9 w os) && laidKept (boot_heap w.params) (H1 w.params)) = true := by kernel_rfl
theorem lk2 (w : World) (os : OsState) : seen ((recsOf q9).map (·.name)) (ownsOf q9) [] { T9 w os with gens := #[] } = expectedOf q9 := by kernel_rfl
theorem lk3 (w : World) : (H1 w.params).bltView = bltViewBooted := by kernel_rfl
theorem lk4 (w : World) (os : OsState) : ((H1 w.params).keysOk (looseW q9 l9) ((recsOf q9).map (·.name)) ((litsOf q9).map (·.1)) ((clssOf q9 (looseW q9 l9)).map (·.name)) && (H1 w.params).accountedOkI (importedModules p9.main.body) && (H1 w.params).isNs mainGlobals && (H1 w.params).isNs builtinsNs && tablesOk q9 (H1 w.params) && Xt9 (T9 w os) && (if true then (T9 w os).gens.size == 0 else !leftWithCleanup (T9 w os).gens)) = true := by kernel_rfl
theorem lk5 (w : World) (os : OsState) : (tabsOk q9 (T9 w os), pinSeenD q9 (drecsOf q9) (T9 w os), plainSeenE q9 (looseW q9 l9) (T9 w os), plainSeenD q9 l9 (T9 w os), wideSeen q9 (T9 w os), clsSeenW q9 l9 (T9 w os)) = (true, pinGoodD (drecsOf q9), plainGoodE q9 (looseW q9 l9), plainGoodD q9 l9, wideGood q9, clsGoodW q9 l9) := by kernel_rfl
theorem cK9 (P : Params) : (K9 P).map (fun p => (Nat.blt p.1 1117, (s9.tree_1211 P).get p.1, alive p.2)) = (K9 P).map fun p => (true, some p.2, some p.2) := by kernel_rfl
theorem aK9 (P : Params) : a9 = (K9 P).map (·.1) := by kernel_rfl
noncomputable abbrev k9 : PySem.W.Hook := PySem.W.kHook K9 a9 aK9
theorem lk6 (w : World) (os : OsState) : k9.obs (T9 w os) = k9.val w := obs9 (cK9 w.params) (aK9 w.params)
theorem sz9 (w : World) : ((boot_heap w.params).isNs mainGlobals && (Array.mk [] : Array GenState).size == 0, (boot_heap w.params).objs.size, (boot_heap w.params).nsMap mainGlobals "__annotations__") = (true, 11, (some (Value.ref 6))) := by kernel_rfl
theorem ope9 : opening p9 = plainProg p9.main.scope.names := by kernel_rfl
theorem fen9 (s : Shared) : fenceModules? p9 s = some s := by kernel_rfl
theorem left9 : LeftO p9 q9 l9 Xt9 k9.obs k9.val 17490 :=
  LeftO.of_pieces (H₁ := H1) (boot_open ope9 (by decide) fen9) sz9 run9 (by decide +kernel) fun w => funext fun os => looks_pair (lk1 w os) (looks_pair (looks_pair (lk2 w os) (looks_pair (lk3 w) (looks_pair (lk4 w os) (lk5 w os)))) (lk6 w os))
noncomputable def d9 : DefRec := (fun x => ⟨Str.ofString "law", x.1, x.2.1, x.2.2, { line := 759, col := 0, endLine := 779, endCol := 15 }⟩) ((p9.theDef (Str.ofString "law")).get (by kernel_rfl))
theorem df9 : defOf q9 r9.name = some (d9, []) := by kernel_rfl
theorem td9 : r9.prog.theDef r9.name = some (d9.params, d9.body, d9.scope) := by kernel_rfl
theorem kw9 : kwWritten? d9.params.kwonlyargs d9.params.kw_defaults = some [] := by kernel_rfl
theorem ok9 : (chainsOk q9 && opensWell r9.prog && (frees r9.toRowW && r9.within.isEmpty)) = true := by kernel_rfl
theorem wi9 : PySem.Challenge.rw_cluemaker_k41_where_a_book_is_refused.row.toRowW.promised := by w_witness2
theorem t9 (walk : WalkO q9 l9 (XL q9 []) (PySem.W.kHook K9 a9 aK9).says PySem.Challenge.rw_cluemaker_k41_where_a_book_is_refused.row.toRowW d9 [] fun f vs => PySem.call f vs) : PySem.Challenge.rw_cluemaker_k41_where_a_book_is_refused.Holds :=
  sa9 fun said => holds_open (r := r9) (Xt := Xt9) (XP := XL q9 []) left9 k9.of k9.keeps (fun s e => xl_of s (Bool.and_eq_true_iff.mp e).1) XL.keeps df9 td9 kw9 (fun s e => recFacts_of (Bool.and_eq_true_iff.mp e).2) (by rfl) said ok9 ⟨rfl, rfl, rfl, rfl, rfl, by decide +kernel⟩ wi9 walk
end H9
end
set_option Elab.async false
set_option linter.all false
set_option maxRecDepth 100000
open PySem.W (Frag nsIn findIn fnOf isFn codeIn keepIn)
set_option maxHeartbeats 40000000
namespace O9
section
variable{A B C D E F I J:Type}{G a b c d e f g i:Prop}
theorem ex1{P:A->Prop}(h:∃a,P a)(k:∀a,P a->G):G:=h.elim k
theorem ex2{P:A->B->Prop}(h:∃a b,P a b)(k:∀a b,P a b->G):G:=h.elim fun a h=>ex1 h (k a)
theorem ex3{P:A->B->C->Prop}(h:∃a b c,P a b c)(k:∀a b c,P a b c->G):G:=h.elim fun a h=>ex2 h (k a)
theorem ex4{P:A->B->C->D->Prop}(h:∃a b c d,P a b c d)(k:∀a b c d,P a b c d->G):G:=h.elim fun a h=>ex3 h (k a)
theorem ex5{P:A->B->C->D->E->Prop}(h:∃a b c d e,P a b c d e)(k:∀a b c d e,P a b c d e->G):G:=h.elim fun a h=>ex4 h (k a)
theorem ex6{P:A->B->C->D->E->F->Prop}(h:∃a b c d e f,P a b c d e f)(k:∀a b c d e f,P a b c d e f->G):G:=h.elim fun a h=>ex5 h (k a)
theorem ex7{P:A->B->C->D->E->F->I->Prop}(h:∃a b c d e f g,P a b c d e f g)(k:∀a b c d e f g,P a b c d e f g->G):G:=h.elim fun a h=>ex6 h (k a)
theorem ex8{P:A->B->C->D->E->F->I->J->Prop}(h:∃a b c d e f g i,P a b c d e f g i)(k:∀a b c d e f g i,P a b c d e f g i->G):G:=h.elim fun a h=>ex7 h (k a)
theorem an2(h:a∧b)(k:a->b->G):G:=k h.1 h.2
theorem an3(h:a∧b∧c)(k:a->b->c->G):G:=an2 h.2 (k h.1)
theorem an4(h:a∧b∧c∧d)(k:a->b->c->d->G):G:=an3 h.2 (k h.1)
theorem an5(h:a∧b∧c∧d∧e)(k:a->b->c->d->e->G):G:=an4 h.2 (k h.1)
theorem an6(h:a∧b∧c∧d∧e∧f)(k:a->b->c->d->e->f->G):G:=an5 h.2 (k h.1)
theorem an7(h:a∧b∧c∧d∧e∧f∧g)(k:a->b->c->d->e->f->g->G):G:=an6 h.2 (k h.1)
theorem an8(h:a∧b∧c∧d∧e∧f∧g∧i)(k:a->b->c->d->e->f->g->i->G):G:=an7 h.2 (k h.1)
end
open Lean
abbrev PL:=Array (TSyntax ``Parser.Tactic.rcasesPatLo)
def ob(h:TSyntax `term)(ps:Array Syntax):MacroM Syntax:=do
 let n:=ps.size
 let mut xs:Array (TSyntax `ident):=#[]
 let mut q<-`(tactic|skip)
 for j in [0:n] do
  let r:=ps[n-1-j]![0]
  let p:=r[0][0]
  if p.isOfKind ``Parser.Tactic.rcasesPat.one&&p[0].getId != `rfl then xs:=xs.push ⟨p[0]⟩
  else if p.isOfKind ``Parser.Tactic.rcasesPat.ignore then xs:=xs.push (mkIdent `o0_)
  else
   let v:=mkIdent (<-Macro.addMacroScope (.mkSimple s!"e{j}"))
   xs:=xs.push v
   q<-`(tactic|(obtain $(⟨r⟩):rcasesPatMed:=$v:ident;$q))
 xs:=xs.reverse
 let x:=mkIdent `o1
 let mut t<-`(tactic|rcases $h:term with⟨$((ps.map (⟨·⟩):PL)),*⟩)
 let m:=min (n-1) 8
 let mut al:=#[(0,min n 8)]
 for j in [0:m] do al:=al.push (1,m-j)
 for j in [0:min n 8-2] do al:=al.push (0,min n 8-1-j)
 for (s,k) in al.reverse do
  let l:=mkIdent (.mkStr2 "O9" ((if s=1 then "ex" else "an")++toString k))
  let k:=k+s
  let (ys,r)<-if k=n then pure (xs,q) else
   let zs:PL:=(xs.extract (k-1) n).map fun y=>⟨mkNode ``Parser.Tactic.rcasesPatLo #[mkNode ``Parser.Tactic.rcasesPatMed #[mkNullNode #[mkNode ``Parser.Tactic.rcasesPat.one #[y]]],mkNullNode]⟩
   pure ((xs.extract 0 (k-1)).push x,(<-`(tactic|(obtain⟨$zs,*⟩:=$x:ident;$q))))
  t<-`(tactic|first|(refine $l $h ?_;(try clear $h);intro $ys*;$r)|($t:tactic))
 return t
def rn(ps:Array Syntax):MacroM Syntax:=do
 let n:=ps.size-1
 let t:=ps[n]![0]
 unless t.isOfKind ``Parser.Tactic.rcasesPat.tuple do Macro.throwUnsupported
 let mut xs:Array Term:=#[]
 for j in [0:n] do
  let p:=ps[j]![0]
  if p.isOfKind ``Parser.Tactic.rcasesPat.one&&p[0].getId != `rfl then xs:=xs.push ⟨p[0]⟩
  else if p.isOfKind ``Parser.Tactic.rcasesPat.ignore then xs:=xs.push ⟨mkNode ``Parser.Term.hole #[mkAtom "_"]⟩
  else Macro.throwUnsupported
 let x:=mkIdent `o2
 xs:=xs.push x
 `(tactic|(intro $xs*;obtain $(⟨mkNode ``Parser.Tactic.rcasesPatMed #[mkNullNode #[t]]⟩):rcasesPatMed:=$x:ident))
def W9(p:Prop):=p
theorem w9{p9:Prop}(h9:p9):W9 p9=True:=eq_true h9
theorem w8{p9:Prop}(h9:W9 p9):p9:=h9
end O9
section
local macro_rules|`(by%$k $t)=>if k.getTrailing?.any (·.toString=="\n ") then `(by refine @O9.w8 _ ?_;simp (disch:=k_dflt (refine @id _ ?_;($t))) only[↓O9.w9]) else Lean.Macro.throwUnsupported
local macro_rules|`(tactic|obtain⟨$ps,*⟩:=$h:term)=>let p:=ps.getElems.map (·.raw);if p.size<2||p.any (fun q=>q[0][0].getNumArgs != 1||q[1].getNumArgs>0) then Lean.Macro.throwUnsupported else O9.ob h p
local macro_rules|`(tactic|rintro $ps*)=>O9.rn (ps.map (·.raw))
namespace O9
open Lean
abbrev DS:=StateT (List Char) MacroM
def nx:DS Char:=do
 let l<-get
 set l.tail
 return l.head?.getD ' '
def num:DS Nat:=do
 let k<-get
 let r:=k.takeWhile (·.isDigit)
 set (k.drop (r.length+1))
 return r.foldl (fun x d=>10*x+(d.toNat-48)) 0
def hd(tb:List String):DS (Term×Nat):=do
 let c<-nx
 let c<-if "~'{}_".toList.contains c then pure (toString c++toString (<-nx)) else pure (toString c)
 let e:=((tb.find? (·.startsWith c)).getD "").toList.drop c.length
 let n:=String.ofList e.dropLast
 let r:=String.ofList (e.dropLast.drop 1)
 let m:Term:=if n="_" then ⟨mkNode ``Parser.Term.hole #[mkAtom "_"]⟩ else if n.startsWith "." then ⟨mkNode ``Parser.Term.dotIdent #[mkAtom ".",mkIdent r.toName]⟩ else if n.startsWith "%" then quote r else mkIdent n.toName
 return (m,(e.getLast?.getD '0').toNat-48)
def cmp(c:Char):MacroM Term:=do
 let t<-if c='>' then `(fun i j=>decide (j<i)) else if c='<' then `(fun i j=>decide (i<j)) else if c='(' then `(fun i j=>decide (i<=j)) else `(fun i j=>decide (j<=i))
 `($(mkIdent `cCmp) $t)
def ixs:Nat->DS (Array Term)
|0=>return #[]
|n+1=>do
 let c<-nx
 if c=' ' then return #[]
 let x<-if c='-' then `(none) else `(some $(quote (c.toNat-48)))
 return #[x]++(<-ixs n)
def dec(v:Name)(ts:Array Term)(tb:List String):Nat->DS Term
|0=>return mkIdent v
|n+1=>do
 let c<-nx
 if c.isDigit then `($(mkIdent v) $(quote (c.toNat-48)))
 else if c='|' then
  let d<-nx
  `($(mkIdent v) $(quote (d.toNat-87)))
 else if c='#' then return quote (<-num)
 else if c='`' then return ts[(<-nx).toNat-48]!
 else if c='$' then
  let t<-dec v ts tb n
  `(fun cl s H fp=>$t)
 else if c='!' then `(by decide)
 else if c='=' then `([])
 else if c=',' then
  let a<-dec v ts tb n
  let b<-dec v ts tb n
  `($(mkIdent `tCall) $a [] $(mkIdent `E0) $b)
 else if c='%' then `(by decide +kernel)
 else if c='@' then
  let t<-dec v ts tb n
  `(show ($t : List $(mkIdent `Str)).Nodup by decide +kernel)
 else if c='&' then
  let a<-ixs 99
  `([$a,*])
 else if "<>()".toList.contains c then cmp c
 else if c='.' then
  let d<-nx
  let t<-dec v ts tb n
  return ⟨mkNode ``Parser.Term.namedArgument #[mkAtom "(",mkIdent (if d='x' then `ix else .mkSimple (toString d)),mkAtom ":=",t,mkAtom ")"]⟩
 else
  modify (c::·)
  let (h,k)<-hd tb
  if k=0 then return h
  let mut a:=#[]
  for _ in [0:k] do a:=a.push (<-dec v ts tb n).raw
  return ⟨mkNode ``Parser.Term.app #[h,mkNullNode a]⟩
def tbR:List String:="atCons2 btOp3 cK0 dtC1 etNil0 f.int1 gtSeq2 hgName1 icIx0 jtRet1 kc0 ltAsg2 mtTest1 ntCB2 otIfS3 ptNext0 q.str1 rtx1 scEq1 td0 utLst1 vcAdd0 wtB1 xkLen0 yiList2 ztComp5 AcMod0 BtOr2 Cfalse0 DaM6 EcNe1 F.bl1 GtAndV2 HtTrue0 IcSub0 JtNot1 Kc.ok0 LcDiv0 MgCons2 NcIn2 OtTup1 Ptrue0 Q%list0 RtBM5 S.non0 TtFor3 UcMul0 VtFldK3 WtAnd2 XdY0 Yn0 ZtDrop1 *gc1 +kList0 -.ty1 /kIsi0 :cj0 ;d.ok0 ?gTup3 [gNil0 ]kIsX1 ^.ref1 ~akAll0 ~btMake5 ~cE00 ~dtPart1 ~esFldK4 ~f%floor0 ~gc.A1 ~haW2 ~ikStr0 ~jbr1 ~ktSl4 ~lou0 ~mtIf3 ~nfO2 ~odn1 ~pdm1 ~qrIsN0 ~rtInG3 ~sdP1 ~tgC1 ~udH1 ~v%amount0 ~wsComp6 ~xkj0 ~y%str0 ~ztNotV1 ~AtOrV2 ~B%spots0 ~CjQ2 ~D%place0 ~EjY3 ~F%sign0 ~Gl62 ~HkE1 ~IkSum0 ~JgL1 ~KiG1 ~LiEnum2 ~McShl0 ~N%cells0 ~O%signs_at0 ~PgZ2 ~QcO1 ~RcShr0 ~S%rules0 ~Tl83 ~Ug71 ~VkLenS1 ~Wg81 ~Xgw1 ~Y%number0 ~Zkn2 ~*tUn2 ~+%marked0 ~-ko2 ~/mR5 ~:kMin0 ~;rNotN0 ~?gSub3 ~[cPut0 ~]cf1 ~^bx4 'a%at0 'b%mark0 'cmU1 'd%int0 'e%tuple0 'fCd4 'grZ1 'hkP1 'ikQ1 'jkAny0 'kt62 'llj1 'mcAnd0 'niQ1 'okH0 'pcu3 'qcR4 'reK1 'scg1 'tE0 'ua.BadThought0 'vnP1 'woA1 'x%words0 'yiTup2 'zsy0 'AgH1 'BvU1 'CfN1 'D%bool0 'E%laws0 'F%given0 'GqU0 'HpG1 'InV1 'JnS1 'K%is_joined0 'LkI2 'Mlq1 'NiC1 'OiD1 'Pjc1 'QpK1 'RjF3 'Sde2 'Tdf4 'Urf4 'Va0 'WtXat3 'XC0 'YoB1 'ZoF1 '*iStr1 '+oK1 '-iy0 '/m81 ':.Unlike0 ';.Sum0 '?.Rising0 '[.Seen0 '].Count0 '^.Joined0 {a.NoSquare0 {b.Ring0 {csC2 {dqj1 {ejb0 {fiH0 {giz2 {hyu0 {ikK2 {jqm1 {koN2 {lni1 {mjU1 {nng2 {ojW1 {prInS1 {q%name0 {rAc2 {stIxG3 {tgd_RULES_OF_KIND0 {usJ2 {vsG0 {wkR3 {xkT3 {yrIxL1 {zh92 {AlO2 {Bjf1 {CgI2 {Dia2 {EcOr0 {FgJ1 {GiJ2 {Hqu2 {Ij51 {JuF2 {Knk1 {LiK2 {Mjj2 {Njk2 {OoU1 {PvN0 {Q%has_two_beside0 {Rjd2 {SvP0 {T%holds0 {UfW2 {VcRepL0 {Wjn1 {XiL2 {YAm1 {ZiM2 {*ic2 {+fD1 {-ie2 {/uJ1 {:iO2 {;iP2 {?jh2 {[j72 {]lw2 {^vX0 }atnear1 }bj32 }cl92 }dlr2 }ekU1 }f%clues0 }gxy3 }hkX2 }ijZ2 }jld2 }kk92 }ljK0 }mig3 }niA0 }of93 }pfZ3 }qoP3 }rqz3 }syC0 }tJk1 }uij1 }vlQ1 }wdB1 }xj91 }ygy1 }zGb1 }Acr1 }Bkr1 }CGe1 }DfP1 }Egd1 }Fge1 }Ggf1 }Hgg1 }IiR1 }JdL1 }Kgh1 }Ljp1 }Mjq1 }NmV1 }OiT1 }PiV1 }QiW1 }Rjr1 }SGi1 }Tgi1 }UkMax0 }Vgj1 }Wgk1 }Xjs1 }Yjt1 }Zgl1 }*ju1 }+lF1 }-mr1 }/dM1 }:lD1 };dN1 }?gM1 }[ik3 }]gm1 }^eI3 _aqC1 _bGo4 _cGp4 _dGq4 _eiX4 _ffQ4 _ggn1 _hgp1 _igq1 _jcPow0 _kjy1 _lGs4 _mmx1 _nDv4 _olH1 _pDw4 _qjv1 _rGu4 _sGv4 _teE3 _uGw5 _vJs3 _wa.NoFloor0 _xa.NoMove0 _ya.NoName0 _za.NoPuzzle0 _Aa.NoRow0 _Ba.NoRule0 _Ca.NoText0 _Da.TooMany0 _ElJ1 _FtTryD7 _GgN3 _Ha.ClueError0 _IdC4 _JqE3 _KiY3 _Lnv3 _MnX3 _NsZ3 _OrPop0 _PnY3 _QpL3 _RpM3 _SpN3 _Td.A1 _U.Puzzle0 _Vdu3 _WuT3 _XpO3 _Ymf1 _ZuU3 _*uV3 _+pP3 _-lz1 _/uW3 _:tXini2 _;x0 _?sXset4 _[f0".splitOn " "
def tbF:List String:="aaa2 brfl0 cad0 dhu0 eae0 fag1 gaf2 hhr0 iah1 jkix3 kaj1 l_0 mam3 nnd0 okcal3 pak4 qkset3 rau3 sao0 taq5 uaw1 vOr.inl1 war4 xaB4 yaC1 zBz.len_0 AaG1 BaI0 CaA0 Day0 EaE5 FaH8 GaF1 Hav0 Ibf2 JaJ0 KRx1 LaX1 Mbh2 Nbw0 Obp1 Pba0 Qbn1 RaR4 SkcaO3 TaY2 UbA1 VaS0 WbC1 XBz.isinstance_0 YaK0 Zbi0 *cA0 +QF0 -bU2 /cB0 :cw0 ;bQ0 ?bJ1 [cy5 ]dh6 ^Qu0 ~aBz.list_0 ~bdI2 ~cBz.range_0 ~dfG0 ~ecx0 ~faT5 ~gck0 ~hdw1 ~igW1 ~jdG5 ~kfF5 ~l.ty1 ~mcQ1 ~ndq0 ~odR1 ~pdO0 ~qcP3 ~rjA2 ~sgX0 ~tfH1 ~uBz.all_0 ~vkF0 ~wbV0 ~xQQ0 ~yQR0 ~zdi0 ~AbB3 ~Bi91 ~Ckm3 ~DOr.inr1 ~EnR5 ~FjN3 ~GmP2 ~HjO4 ~Isj0 ~JgS5 ~KMu0 ~LMC0 ~MMv0 ~NMx0 ~OMD0 ~Pt51 ~QBz.tuple_0 ~Ror0 ~SMA0 ~TMw0 ~Uye2 ~VMP0 ~WqO0 ~XqP0 ~YMQ0 ~ZMR0 ~*M40 ~+vQ0 ~-RB0 ~/RD0 ~:mS1 ~;qV3 ~?Bz.enumerate_0 ~[MI0 ~]ME0 ~^MY0 'aBZ2 'byg0 'cqT0 'dMJ0 'emT1 'fBz.sum_0 'gum0 'hM20 'i%list0 'jMF0 'kMX0 'lyp0 'mMM0 'nNf0 'oMK0 'pMT0 'qMN0 'ryK3 'sMH0 'tBz.int_0 'uCn0 'v%tuple0 'wMU0 'xiE0 'yt73 'zz70 'Ayf3 'BB11 'CMS0 'DMW0 'EMZ0 'FM00 'Guk1 'HBz.any_0 'ICm0 'JM70 'KMz0 'LvI0 'MMG0 'NML0 'OCe5 'PTV0 'QS60 'RS70 'Syx0 'TwC0 'UNh0 'VGO1 'WyD0 'XNi0 'YNt0 'Zpq1 '*Bz.min_0 '+yq0 '-B65 '/qi6 ':B55 ';Nu0 '?NN0 '[M80 ']M90 '^AX6 {aBz.set_0 {bxf3 {cNv0 {dMV0 {eqR= {fFb3 {gNw0 {hOq0 {iNj0 {jNy0 {kM10 {lId1 {m%int0 {n%bool0 {oBz.bool_0 {pEZ0 {qLa1 {ryj4 {sEV0 {tCQ0 {uBX_divmod0 {vHE0 {wT60 {xT70 {yHv0 {zJR0 {AEM.NoFloor0 {BEM.NoMove0 {CEM.NoName0 {DEM.NoPuzzle0 {EEM.NoRow0 {FEM.NoRule0 {GEM.NoText0 {HEM.TooMany0 {IBV0 {JBp0 {KLu0 {LPj0 {MLs4 {NNz0 {OPySem.F.slot_list_extend0 {PPySem.F.type_list_extend0 {QFM0 {ROl0 {SG81 {TBz.max_0 {UK70 {VOm0 {WOn0 {XCk0 {YBz.sorted_0 {ZHc0 {*OJ0 {+Na0 {-Lb0 {/OT0 {:K_Sum0 {;OS0 {?Pl0 {[O80 {]OR0 {^OA0 }aPk0 }bN80 }cN10 }dOa0 }eN90 }fOo0 }gNl0 }hO90 }iNO0 }jOB0 }kNA0 }lOU0 }mOb0 }nOp0 }oNP0 }pOc0 }qOC0 }rNQ0 }sPa0 }tNR0 }uNF0 }vNT0 }wNS0 }xNo0 }yM30 }zOV0 }AOW0 }B%str0 }CBz.str_0 }DkD0 }ER90 }FPySem.F.slot_str_split0 }GPySem.F.type_str_split0 }HHe0 }IN30 }JOs0 }KOK0 }LOD0 }MPm0 }NIL0 }ONp0 }PPb0 }QNq0 }RNG0 }SNU0 }TOu0 }UNH0 }VN40 }WNV0 }XNJ0 }YOe0 }ZNI0 }*Of0 }+Nk0 }-NW0 }/Nb0 }:Nd0 };Ov0 }?OL0 }[NX0 }]M50 }^OE0 _aNr0 _bNY0 _cEM.BadThought0 _dOg0 _eMy0 _fNZ0 _gNK0 _hNm0 _iOw0".splitOn " "
def run(s:String)(ts:Array Term):MacroM Term:=do
 let l:=s.toList
 let r:=l.head?==some ':'
 unless (r||(l.head?==some ';')) do Macro.throwUnsupported
 let (t,_)<-(dec (if r then `tVar else `pv) ts (if r then tbR else tbF) 500).run l.tail
 let h:=mkIdent `hr;let u:=mkIdent `hu;let n:=mkIdent `nd;if r then `(by exact $t) else `(fun $h $u $n=>by exact $t)
end O9
local macro_rules|`(tactic|ac_nf)=>`(tactic|dsimp only[$(Lean.mkIdent `L2.start):ident,List.map,List.length_cons,List.length_nil,Nat.reduceAdd,Nat.reduceSub,List.replicate_succ,List.replicate_zero,List.cons_append,List.nil_append])
local macro_rules|`(↑$x)=>`(some (.ref $x))
local macro_rules|`(⇑$x)=>`(some (.int $x))
local macro_rules|`(↥$x)=>`(some (.lst $x))
local macro_rules|`(∅)=>`(List Int)
local macro_rules|`(#[$ts,*])=>let a:=ts.getElems;match a[0]? with|none=>Lean.Macro.throwUnsupported|some e=>match e.raw.isStrLit? with|some s=>O9.run s (a.extract 1 a.size)|none=>match e.raw.isNatLit? with|some 0=>`(by omega)|some 1=>`(by decide)|some 3=>let i:=Lean.mkIdent;`(fun $(i `vs) $(i `H) $(i `Q) _=>$(a[1]!))|_=>Lean.Macro.throwUnsupported
local macro_rules|`(tactic|exists $t)=>if t.raw.isIdent then `(tactic|(ac_nf;unfold $(⟨t.raw⟩):ident;symm)) else `(tactic|(symm;refine $t))
namespace L2
open PySem PySem.Spec PyProof.Rows
abbrev P0:=@List.length_map
abbrev P1:=@List.getElem?_eq_getElem
abbrev P3:=@decide_eq_false
abbrev P4:=@decide_eq_true
abbrev P5:=@List.getElem?_map
abbrev P6:=@decide_eq_true_eq
abbrev P7:=@Bool.false_ne_true
abbrev P8:=@List.getElem?_eq_some_iff
abbrev P9:=@Bool.false_and
abbrev Qa:=@Nat.le_trans
abbrev Qb:=@Heap.get?_push_of_some
abbrev Qc:=@Bool.true_and
abbrev Qd:=@Nat.le_refl
abbrev Qe:=@List.mem_map
abbrev Qf:=@List.mem_range
abbrev Qg:=@List.mem_cons_of_mem
abbrev Qi:=@List.mem_of_getElem?
abbrev Qj:=@List.all_eq_true
abbrev Qk:=@List.length_filter_le
abbrev Ql:=@List.size_toArray
abbrev Qm:=@List.mem_cons_self
abbrev Qn:=@List.length_append
abbrev Qo:=@Heap.lt_size
abbrev Qp:=@if_neg
abbrev Qq:=@wpAny_bind
abbrev Qr:=@List.getElem?_eq_none
abbrev Qs:=@List.mem_cons
abbrev Qt:=@if_pos
abbrev Qu:=@PySem.F.plainAttrs_list
abbrev Qv:=@Nat.lt_of_lt_of_le
abbrev Qw:=@of_decide_eq_true
abbrev Qx:=@Bool.eq_iff_iff
abbrev Qy:=@Bool.and_eq_true
abbrev Qz:=@List.mem_singleton
abbrev QA:=@Int.emod_lt_of_pos
abbrev QB:=@List.mem_filter
abbrev QC:=@List.length_cons
abbrev QD:=@List.mem_append
abbrev QE:=@List.getElem_mem
abbrev QF:=@PassesOwn.never
abbrev QG:=@Heap.get?_push_size
abbrev QH:=@Nat.ne_of_lt
abbrev QI:=@Nat.zero_le
abbrev QJ:=@List.map_cons
abbrev QK:=@Int.emod_nonneg
abbrev QL:=@wpAny_loadPart_at
abbrev QM:=@List.getElem?_append_left
abbrev QN:=@wpAny_pure
abbrev QO:=@List.map_map
abbrev QP:=@List.filter_append
abbrev QQ:=@PySem.F.slot_list_append
abbrev QR:=@PySem.F.type_list_append
abbrev QS:=@List.getElem?_append_right
abbrev QT:=@Nat.le_of_lt
abbrev QU:=@List.length_range
abbrev QV:=@Int.toNat_natCast
abbrev QW:=@List.filter_cons
abbrev QX:=@wpAny_mono
abbrev QY:=@List.mem_append_right
abbrev QZ:=@Nat.le_of_ble_eq_true
abbrev Q0:=@List.eq_nil_of_length_eq_zero
abbrev Q5:=@List.lookup_cons
abbrev Q7:=@PySem.W.looks_findIn
abbrev Q8:=@List.take_of_length_le
abbrev Q9:=@PyProof.Rows.callWith_type1
abbrev Ra:=@List.getElem?_range
abbrev Rb:=@PySem.W.kia_one
abbrev Rc:=@List.range_succ
abbrev Re:=@List.map_append
abbrev Rf:=@List.not_mem_nil
abbrev Rg:=@List.filterMap_cons
abbrev Rh:=@PySem.mem_of_lookup
abbrev Ri:=@wpAny_truthy_bool
abbrev Rj:=@Int.eq_ofNat_of_zero_le
abbrev Rm:=@wpAny_Call_Name_kw
abbrev Rn:=@Nat.lt_of_le_of_lt
abbrev Ro:=@List.forall_mem_cons
abbrev Rp:=@List.ext_getElem?
abbrev Rq:=@Bool.false_or
abbrev Rr:=@List.nodup_cons
abbrev Rs:=@Int.zero_add
abbrev Rt:=@List.length_take
abbrev Ru:=@Bool.and_eq_true_iff
abbrev Rv:=@Nat.lt_irrefl
abbrev Rw:=@Int.mul_nonneg
abbrev Ry:=@List.drop_eq_getElem_cons
abbrev Rz:=@List.map_id'
abbrev RA:=@Nat.lt_succ_of_lt
abbrev RB:=@PySem.F.slot_list_index
abbrev RD:=@PySem.F.type_list_index
abbrev RE:=@Option.some.inj
abbrev RF:=@List.filter_eq_self
abbrev RG:=@Option.map_eq_some_iff
abbrev RH:=@Bool.not_true
abbrev RI:=@wpAny_passesOwn
abbrev RJ:=@List.find?_cons
abbrev RL:=@PySem.W.hideAll_none
abbrev RM:=@Heap.get?_none_of_le
abbrev RN:=@List.mem_append_left
abbrev RO:=@List.length_dropLast
abbrev RP:=@List.mem_iff_getElem
abbrev RQ:=@List.set_set
abbrev RS:=@List.nodup_append
abbrev RT:=@codeAny_call_builtin
abbrev RU:=@List.findIdx_lt_length_of_exists
abbrev RV:=@beq_iff_eq
abbrev RW:=@call_meets
abbrev RX:=@List.replicate_succ
abbrev RY:=@Heap.size_push
abbrev RZ:=@List.any_eq_true
abbrev R0:=@wpAny_getItem_str_slice
abbrev R1:=@List.take_length
abbrev R5:=@Nat.le_succ
abbrev R7:=@PySem.W.callWith_K
abbrev R8:=@List.all_map
abbrev R9:=@PySem.F.plainAttrs_str
abbrev Sa:=@wpAny_execs_nil
abbrev Sb:=@List.foldl_cons
abbrev Sc:=@List.any_cons
abbrev Sd:=@Int.fdiv_eq_ediv_of_nonneg
abbrev Se:=@List.mem_of_mem_take
abbrev Sf:=@List.take_succ
abbrev Sg:=@Bool.not_false
abbrev Sh:=@List.drop_length
abbrev Si:=@beq_eq_false_iff_ne
abbrev Sj:=@PySem.W.hideAll_get
abbrev Sk:=@Array.length_toList
abbrev Sm:=@Nat.add_le_add_left
abbrev Sn:=@or_false
abbrev So:=@Calls.spliced_cons
abbrev Sq:=@tupleKind_room_in1
abbrev Sr:=@decide_eq_false_iff_not
abbrev Ss:=@List.getElem?_set_self
abbrev Su:=@wpAny_pyIter_list
abbrev Sv:=@Calls.spliced_nil
abbrev Sw:=@List.flatten_cons
abbrev Sx:=@Heap.get?_update_other
abbrev Sy:=@Bool.true_or
abbrev Sz:=@F.attr_ValueError
abbrev SA:=@List.eraseIdxIfInBounds_toArray
abbrev SB:=@plainObj_wpAny_Assign_Attribute
abbrev SD:=@Array.getElem?_toList
abbrev SE:=@Heap.get?_update_self
abbrev SG:=@F.typeOf_object_class
abbrev SH:=@PySem.W.methodCall_KW
abbrev SI:=@builtinLookup_eq_fast
abbrev SJ:=@PySem.F.slot_str_join
abbrev SK:=@PySem.F.type_str_join
abbrev SL:=@Nat.lt_succ_self
abbrev SM:=@PyProof.Rows.callWith_builtin1
abbrev SN:=@typeIs_str
abbrev SO:=@Nat.succ_le_succ
abbrev SQ:=@Nat.le_add_right
abbrev SR:=@Nat.min_eq_right
abbrev SS:=@wpAny_holding
abbrev ST:=@wpAny_standAt
abbrev SU:=@List.all_cons
abbrev SV:=@List.getElem?_set_ne
abbrev SW:=@Nat.mul_le_mul_right
abbrev SX:=@pushCells_keeps
abbrev SY:=@post_val_or_str
abbrev SZ:=@List.length_set
abbrev S0:=@PySem.W.plainGet_of
abbrev S1:=@ne_true_of_eq_false
abbrev S2:=@List.map_congr_left
abbrev S3:=@Ne.symm
abbrev S4:=@Nat.ne_of_gt
abbrev S5:=@codeAny_mono
abbrev S6:=@PySem.F.slot_int_bit_length
abbrev S7:=@PySem.F.type_int_bit_length
abbrev S8:=@Array.append_assoc
abbrev S9:=@PySem.W.of_hideAll
abbrev Ta:=@Calls.Name_function_global
abbrev Tb:=@Int.fmod_eq_emod_of_nonneg
abbrev Tc:=@wpAny_loadPart
abbrev Td:=@wpAny_call
abbrev Te:=@Bool.and_false
abbrev Tf:=@F.args_str_split_2
abbrev Tg:=@List.nodup_nil
abbrev Th:=@Code.quiet_builtin
abbrev Ti:=@List.map_replicate
abbrev Tj:=@List.mem_replicate
abbrev Tk:=@PySem.W.mg_none_of
abbrev Tl:=@F.store_ValueError
abbrev Tm:=@PySem.F.slot_dict_getitem
abbrev Tn:=@Array.getElem?_eq_getElem
abbrev To:=@sizeLine_eq
abbrev Tp:=@List.append_assoc
abbrev Tq:=@Option.isSome_map
abbrev Ts:=@F.entry_str_split
abbrev Tt:=@Bool.not_eq_true'
abbrev Tu:=@List.foldl_append
abbrev Tv:=@Int.mul_pos
abbrev Tw:=@wpAny_comprehension_free
abbrev Tx:=@List.map_take
abbrev Ty:=@List.sublist_append_left
abbrev Tz:=@wpAny_execs_cons
abbrev TB:=@F.slot_str_split
abbrev TC:=@PyProof.noPylong_small
abbrev TD:=@PySem.W.cellsFrom_some
abbrev TF:=@subscriptTail_builtinR
abbrev TH:=@Calls.callWith_builtin
abbrev TJ:=@Txt.slice_le
abbrev TL:=@List.length_pos_of_mem
abbrev TM:=@List.not_of_lt_findIdx
abbrev TN:=@List.drop_eq_nil_of_le
abbrev TQ:=@Int.le_trans
abbrev TR:=@List.getElem?_dropLast
abbrev TV:=@PySem.F.plainAttrs_int
abbrev TW:=@List.length_nil
abbrev TX:=@List.append_nil
abbrev TY:=@List.of_mem_zip
abbrev TZ:=@Bool.or_eq_true
abbrev T3:=@typeLookup_type
abbrev T4:=@Nat.min_eq_left
abbrev T5:=@List.length_singleton
abbrev T6:=@PySem.F.slot_list_pop
abbrev T7:=@PySem.F.type_list_pop
abbrev T8:=@Int.one_mul
abbrev T9:=@Paired.length
abbrev Ua:=@List.sum_cons
abbrev Ub:=@F.slot_gs_get
abbrev Uc:=@Bool.and_self
abbrev Uf:=@if_true
abbrev Ug:=@Nat.succ_mul
abbrev Uh:=@List.any_map
abbrev Ui:=@Nat.lt_or_ge
abbrev Uj:=@Int.lt_trans
abbrev Key:=Sum Int Str
def keyIs:Key->Value->Bool
 | .inl k,v=>Value.isInt k v
 | .inr x,v=>Value.isStrOf x v
def keyH(w:World):Key->Int
 | .inl k=>hashInt k
 | .inr x=>hashStr w x
theorem dg:∀{k:Key} {v:Value},keyIs k v=true->(∃ i t,k=Sum.inl i/\v=Value.int i t)\/(∃ x t,k=Sum.inr x/\v=Value.str x t)
 | .inl i,v,h=>by
  obtain⟨t,e⟩:=Value.isInt_shape (k:=i) (v:=v) h;exact .inl ⟨i,t,rfl,e⟩
 | .inr x,v,h=>by
  obtain⟨t,e⟩:=Value.isStrOf_shape (x:=x) (v:=v) h;exact .inr ⟨x,t,rfl,e⟩
def GK(i:Int)(t:Tok):keyIs (.inl i) (.int i t)=true:=by simp[keyIs,Value.isInt]
def GL(x:Str)(t:Tok):keyIs (.inr x) (.str x t)=true:=by simp[keyIs,Value.isStrOf]
def KD(a b:Int):decide ((Sum.inl a:Key)=Sum.inl b)=(a==b):=by
 by_cases e:a=b
 . subst e;simp
 . have h:¬ (Sum.inl a:Key)=Sum.inl b:=λq=>e (Sum.inl.inj q);rw[P3 h];exact(Si.mpr e).symm
def KF(a b:Str):decide ((Sum.inr a:Key)=Sum.inr b)=decide (a=b):=by
 by_cases e:a=b
 . subst e;simp
 . have h:¬ (Sum.inr a:Key)=Sum.inr b:=λq=>e (Sum.inr.inj q);rw[P3 h,P3 e]
def KG(a:Int)(b:Str):decide ((Sum.inl a:Key)=Sum.inr b)=false:=P3 (λq=>nomatch q)
def KH(a:Str)(b:Int):decide ((Sum.inr a:Key)=Sum.inl b)=false:=P3 (λq=>nomatch q)
def dQ(prog:Program)(w:World):PySem.KeyKind prog w Key where
 is:=keyIs
 hash:=keyH w
 inj:=λv a b f d=>by
  rcases dg f with ⟨i,t,rfl,rfl⟩ | ⟨x,t,rfl,rfl⟩
  . rcases dg d with ⟨j,u,rfl,e⟩ | ⟨y,u,rfl,e⟩
    . injection e with e1 _;rw[e1]
    . exact nomatch e
  . rcases dg d with ⟨j,u,rfl,e⟩ | ⟨y,u,rfl,e⟩
    . exact nomatch e
    . injection e with e1 _;rw[e1]
 byValue:=λk v h=>by
  rcases dg h with ⟨i,t,rfl,rfl⟩ | ⟨x,t,rfl,rfl⟩ <;> rfl
 pyHash:=λc h=>by
  rcases dg c with ⟨i,t,rfl,rfl⟩ | ⟨x,t,rfl,rfl⟩
  . exact wpAny_pyHash_int h
  . exact wpAny_pyHash_str h
 eqBool:=λg c h=>by
  rcases dg g with ⟨i,t,rfl,rfl⟩ | ⟨x,t,rfl,rfl⟩
  . rcases dg c with ⟨j,u,rfl,rfl⟩ | ⟨y,u,rfl,rfl⟩
    . rw[KD]at h;exact wpAny_eqBool_int h
    . rw[KG]at h;exact SeqAt.EqAt.int_str i t y u _ _ _ _ h
  . rcases dg c with ⟨j,u,rfl,rfl⟩ | ⟨y,u,rfl,rfl⟩
    . rw[KH]at h;exact SeqAt.EqAt.str_int x t j u _ _ _ _ h
    . rw[KF]at h;exact wpAny_eqBool_str h
 «strs»:=λk x t v h=>by
  rcases dg h with ⟨i,u,rfl,e⟩ | ⟨y,u,rfl,e⟩
  . exact nomatch e
  . injection e with e1 _;subst e1;cases v <;> rfl
def Eg(prog:Program)(w:World)(i:Int)(t:Tok):(dQ prog w).is (.inl i) (.int i t)=true:=GK i t
def Eh(prog:Program)(w:World)(x:Str)(t:Tok):(dQ prog w).is (.inr x) (.str x t)=true:=GL x t
inductive V where
 | non | bl (b:Bool) | int (i:Int) | str (x:Str) | byt (b:Array UInt8) | flt (b:UInt64) | ref (a:Addr) | ty (n:String)
 deriving DecidableEq
def RelV:V->Value->Prop
 | .non,u=>u=Value.none
 | .bl b,u=>u=Value.bool b
 | .int i,u=>∃ t,u=Value.int i t
 | .str x,u=>∃ t,u=Value.str x t
 | .byt b,u=>∃ t,u=Value.bytes b t
 | .flt b,u=>∃ t,u=Value.float b t
 | .ref a,u=>u=Value.ref a
 | .ty n,u=>u=Value.type n
abbrev Vals:List V->List Value->Prop:=Paired RelV
def Vals.length{xs:List V}{us:List Value}(r:Vals xs us):xs.length=us.length:=T9 r
theorem Vals.get:∀{xs:List V} {us:List Value} {i:Nat} {x:V},Vals xs us->xs[i]? =some x->∃ u,us[i]? =some u/\RelV x u
 | _,_,_,_,.nil,e=>by simp at e
 | _,_,0,_,.cons r _,e=>by simp at e;subst e;exact⟨_,rfl,r⟩
 | _,_,i+1,x,.cons _ t,e=>by
  obtain⟨u,h1,h2⟩:=Vals.get (i:=i) (x:=x) t (by simpa using e);exact⟨u,by simpa using h1,h2⟩
theorem Vals.append:∀{xs ys:List V} {us a:List Value},Vals xs us->Vals ys a->Vals (xs++ys) (us++a)
 | _,_,_,_,.nil,s=>s
 | _,_,_,_,.cons r t,s=>.cons r (Vals.append t s)
theorem Vals.take:∀{xs:List V} {us:List Value} (n:Nat),Vals xs us->Vals (xs.take n) (us.take n)
 | _,_,0,_=>.nil
 | _,_,_+1,.nil=>.nil
 | _,_,n+1,.cons r t=>.cons r (Vals.take n t)
theorem Vals.drop:∀{xs:List V} {us:List Value} (n:Nat),Vals xs us->Vals (xs.drop n) (us.drop n)
 | _,_,0,r=>r
 | _,_,_+1,.nil=>.nil
 | _,_,n+1,.cons _ t=>Vals.drop n t
def RelO:Option V->Option Value->Prop
 | some v,some u=>RelV v u
 | none,none=>True
 | _,_=>False
def KV{κ:Type}:List (κ × V)->List (κ × Value)->Prop:=Paired λ(p:κ × V) (q:κ × Value)=>p.1=q.1/\RelV p.2 q.2
def kV:Key->V
 | .inl i=>.int i
 | .inr x=>.str x
inductive HO where
  | lst (xs:List V)
  | tup (xs:List V)
  | dK (PR:List (Key × V)) | dT (PR:List (List Key × V))
  | set (S:Int->Bool) (n:Nat)
  | ins (C dx:Addr) (fs:List (Str × V))
  | own (x:Addr)
  | xd (fs:List (Str × V))
  | met (f x:Addr)
  | rng (lo hi:Int)
  | frz (o:Obj) (u:HO)
  | tbl (ps:Array Value)
  | ext (φ:Heap->Prop)
abbrev Hp:=Addr->Option HO
def upd(H:Hp)(a:Addr)(o:HO):Hp:=λb=>if b=a then some o else H b
variable{H:Hp}{a:Addr}{o:HO}
def ai:upd H a o a=some o:=by unfold upd;rw[Qt rfl]
variable{b:Addr}
def ap(h:b≠a):upd H a o b=H b:=by unfold upd;rw[Qp h]
def LW{u:HO}(h:H a=some o)(h':H b=some u)(d:o≠u):a≠b:=by
 intro e;subst e;rw[h]at h';exact d (RE h')
def aD(h:H a=some o)(h':H b=none):a≠b:=by
 intro e;subst e;rw[h]at h';cases h'
section
variable(P:Program)(w:World)
def ObjOk(H:Hp)(h:Heap)(a:Addr):HO->Prop
 | .lst xs=>xs.length<=sizeLine/\∃(PU:List Value) (n:Nat),Vals xs PU/\h.get? a=some {cls:=.type "list",data:=.seq PU.toArray n}
 | .tup xs=>xs.length<=sizeLine/\∃ PU:List Value,Vals xs PU/\IsTup h a PU.toArray
 | .dK d=>d.length<=sizeLine/\(a==sysModules)=false/\∃ vs,KV d vs/\h.DictOf (dQ P w) a vs
 | .dT d=>d.length<=sizeLine/\(a==sysModules)=false/\∃ xs:List (List Key × Addr × Value),
   Paired (λ(p:List Key × V) (q:List Key × Addr × Value)=>p.1=q.1/\H q.2.1=some (.tup (p.1.map kV))/\RelV p.2 q.2.2) d xs/\
   ∃ o e i,h.get? a=some o/\o.ExactDict/\o.data=.dict e i/\e.toList=xs.map (entryOfKey (tupleKind (dQ P w)))/\(xs.map (·.1)).Nodup
 | .set S n=>h.SetOf (intKind P w) a S n
 | .ins C dx c=>H dx=some (.own a)/\c.length<=1000/\dx≠a/\h.get? a=some (PySem.W.instObj C dx)/\
   ∃ b,h.Ns1 dx b/\(∀ f,RelO (c.lookup f) (b f))/\PySem.Within b (c.map (·.1))
 | .own _=>∃ o,h.get? a=some o
 | .xd c=>∃ b,h.Ns1 a b/\∀ f,RelO (c.lookup f) (b f)
 | .rng k g=>∃ t u v,h.get? a=some {cls:=.type "range",data:=.fields #[.int k t,.int g u,.int 1 v]}
 | .frz o u=>h.get? a=some o/\ObjOk H h a u
 | .tbl j=>h.get? a=some {cls:=.none,data:=.fields j}
 | .met f x=>h.get? a=some (PySem.W.methodObj (.ref f) (.ref x))
 | .ext φ=>φ h/\(∃ o,h.get? a=some o)/\∀ h1 h2:Heap,φ h1->(∀ o,h1.get? a=some o->h2.get? a=some o)->φ h2
def HOk(H:Hp)(h:Heap):Prop:=∀ a o,H a=some o->ObjOk P w H h a o
end
section
variable{P:Program}{w:World}{H H':Hp}{h h':Heap}{a:Addr}{o:HO}
theorem ObjOk.lt(x:ObjOk P w H h a o):a<h.objs.size:=by
 cases o with
 | lst d=>obtain⟨_,_,_,_,e⟩:=x;exact Qo e
 | tup d=>obtain⟨_,_,_,p⟩:=x;exact p.lt
 | dK c=>obtain⟨_,_,_,_,o,_,_,e,_⟩:=x;exact Qo e
 | dT c=>obtain⟨_,_,_,_,o,_,_,e,_⟩:=x;exact Qo e
 | set S n=>obtain⟨o,_,_,_,e,_⟩:=x;exact Qo e
 | ins C g b=>obtain⟨_,_,_,e,_⟩:=x;exact Qo e
 | own y=>obtain⟨_,e⟩:=x;exact Qo e
 | xd b=>obtain⟨_,⟨_,_,_,e,_⟩,_⟩:=x;exact Qo e
 | rng l i=>obtain⟨_,_,_,e⟩:=x;exact Qo e
 | frz j u=>obtain⟨e,_⟩:=x;exact Qo e
 | tbl k=>exact Qo (show h.get? a=some _ from x)
 | met f y=>exact Qo (show h.get? a=some _ from x)
 | ext φ=>obtain⟨_,⟨_,e⟩,_⟩:=x;exact Qo e
theorem Paired.mapP{α β:Type}{F G:α->β->Prop}:∀{c:List α} {d:List β},Paired F c d->(∀ a b,F a b->G a b)->Paired G c d
 | _,_,.nil,_=>.nil
 | _,_,.cons r t,f=>.cons (f _ _ r) (Paired.mapP t f)
theorem ObjOk.stay (x:ObjOk P w H h a o) (k:∀ b u,(b=a\/H b=some (.own a))->h.get? b=some u->h'.get? b=some u)
  (J:∀ b,H b=some (.own a)->H' b=some (.own a)) (E:∀ b xs,H b=some (.tup xs)->H' b=some (.tup xs)):ObjOk P w H' h' a o:=by
 induction o with
 | lst xs=>obtain⟨z,l,n,r,e⟩:=x;exact⟨z,l,n,r,k _ _ (.inl rfl) e⟩
 | tup xs=>obtain⟨z,l,r,g,e,c⟩:=x;exact⟨z,l,r,g,k _ _ (.inl rfl) e,c⟩
 | dK F=>obtain⟨z,y,vs,r,g,i,j,e,c⟩:=x;exact⟨z,y,vs,r,g,i,j,k _ _ (.inl rfl) e,c⟩
 | dT F=>
  obtain⟨z,y,xs,r,g,i,j,e,c⟩:=x;exact⟨z,y,xs,Paired.mapP r λp q z=>⟨z.1,E _ _ z.2.1,z.2.2⟩,g,i,j,k _ _ (.inl rfl) e,c⟩
 | set S n=>obtain⟨g,i,j,t,e,c⟩:=x;exact⟨g,i,j,t,k _ _ (.inl rfl) e,c⟩
 | ins C K D=>
  obtain⟨d,z,I,e,s,⟨m,i,j,e2,c⟩,r⟩:=x;exact⟨J _ d,z,I,k _ _ (.inl rfl) e,s,⟨m,i,j,k _ _ (.inr d) e2,c⟩,r⟩
 | own y=>obtain⟨g,e⟩:=x;exact⟨g,k _ _ (.inl rfl) e⟩
 | xd D=>obtain⟨s,⟨m,i,j,e,c⟩,r⟩:=x;exact⟨s,⟨m,i,j,k _ _ (.inl rfl) e,c⟩,r⟩
 | rng M L=>obtain⟨t,u,v,e⟩:=x;exact⟨t,u,v,k _ _ (.inl rfl) e⟩
 | frz g u G=>obtain⟨e,q⟩:=x;exact⟨k _ _ (.inl rfl) e,G q⟩
 | tbl A=>
  have e:h.get? a=some {cls:=.none,data:=.fields A}:=x;show h'.get? a=some {cls:=.none,data:=.fields A};exact k a _ (.inl rfl) e
 | met f y=>
  have e:h.get? a=some (PySem.W.methodObj (.ref f) (.ref y)):=x;show h'.get? a=some (PySem.W.methodObj (.ref f) (.ref y));exact k a _ (.inl rfl) e
 | ext φ=>obtain⟨p,⟨o,e⟩,B⟩:=x;exact⟨B _ _ p λo q=>k _ _ (.inl rfl) q,⟨o,k _ _ (.inl rfl) e⟩,B⟩
def HOk.lt(x:HOk P w H h)(e:H a=some o):a<h.objs.size:=(x a o e).lt
theorem HOk.fresh(x:HOk P w H h)(e:h.objs.size<=a):H a=none:=by
 cases q:H a with
 | none=>rfl
 | some u=>exact absurd (Qv (x.lt q) e) (Rv _)
def HOk.kept(x:HOk P w H h)(k:∀ b u,h.get? b=some u->h'.get? b=some u):HOk P w H h':=λa o e=>
 (x a o e).stay (λb u _ q=>k b u q) (λ_ q=>q) λ_ _ q=>q
def HOk.laid(x:HOk P w H h)(k:∀ b u,h.get? b=some u->h'.get? b=some u)(i:h.objs.size<=a)(d:ObjOk P w (upd H a o) h' a o):HOk P w (upd H a o) h':=λb u e=>by
 have g:=x.fresh i;by_cases f:b=a
 . subst f;rw[ai]at e;cases e;exact d
 . rw[ap f]at e;exact(x b u e).stay (λc v _ q=>k c v q) (λc q=>by rw[ap (aD q g)];exact q) λc j q=>by rw[ap (aD q g)];exact q
end
def Rd(H:Hp)(a:Addr)(u:HO):Prop:=H a=some u\/∃ o,H a=some (.frz o u)
variable{h:Heap}
def Rd.ok{P:Program}{w:World}{u:HO}(r:Rd H a u)(x:HOk P w H h):ObjOk P w H h a u:=by
 rcases r with r | ⟨o,r⟩
 . exact x a u r
 . obtain⟨_,q⟩:=x a _ r;exact q
def Mut:Option HO->Prop
 | ↥_=>True
 | some (.dK _)=>True
 | some (.dT _)=>True
 | some (.set _ _)=>True
 | some (.ins _ _ _)=>True
 | some (.ext _)=>True
 | _=>False
section
variable{P:Program}{w:World}{H:Hp}{h h':Heap}{x e:Addr}{o':HO}
def HOk.write (t:HOk P w H h) (i:Mut (H x)) (p:e=x\/H e=some (.own x)) (k:∀ b u,b≠e->h.get? b=some u->h'.get? b=some u) (n:∃ u,h'.get? e=some u)
  (m:ObjOk P w (upd H x o') h' x o'):HOk P w (upd H x o') h':=λb u q=>by
 have d:∀ c y,H c=some (.own y)->c≠x:=λc y r z=>by subst z;rw[r]at i;exact i
 have f:∀ c l,H c=some (.tup l)->c≠x:=λc l r z=>by subst z;rw[r]at i;exact i
 by_cases g:b=x
 . subst g;rw[ai]at q;cases q;exact m
 . rw[ap g]at q;by_cases a:b=e
   . have o:H b=some (.own x):=by
      rcases p with z | z
      . exact absurd (a.trans z) g
      . rw[a];exact z
     rw[q]at o;cases o;obtain⟨v,s⟩:=n;exact⟨v,by rw[a];exact s⟩
   . refine(t b u q).stay (λc v j r=>k c v ?_ r) (λc r=>by rw[ap (d c b r)];exact r) λc l r=>by rw[ap (f c l r)];exact r
     rcases j with rfl | j
     . exact a
     . rintro rfl;rcases p with z | z
       . exact d c b j z
       . rw[j]at z;cases z;exact g rfl
end
structure Un(fs ex:List Addr)(H H':Hp)(h h':Heap):Prop where
 keep:∀ b o,h.get? b=some o->H b=none->b∉fs->b∉ex->h'.get? b=some o
 slot:∀ b o,h.get? b=some o->H b=none->b∈fs->b∉ex->∃ sl,h'.get? b=some {o with slots:=sl}
 free:∀ b o,h.get? b=some o->H b=none->b∉ex->H' b=none
 there:∀ b o,h.get? b=some o->b∉ex->∃ o',h'.get? b=some o'
 tups:∀ b xs,H b=some (.tup xs)->H' b=some (.tup xs)
 frzs:∀ b o u,H b=some (.frz o u)->H' b=some (.frz o u)
 tbls:∀ b ps,H b=some (.tbl ps)->∃ more,H' b=some (.tbl (ps++more))
section
variable{fs fs' ex ex':List Addr}{H H1 H2:Hp}{h h1 h2 h':Heap}{a x e:Addr}{o:HO}
def Un.any(u:Un fs ex H H1 h h1){b:Addr}{a:Obj}(q:h.get? b=some a)(n:H b=none)(d:b∉ex):∃ e,h1.get? b=some {a with slots:=e}:=by
 by_cases c:b∈fs
 . exact u.slot b a q n c d
 . exact⟨a.slots,u.keep b a q n c d⟩
def Un.trans(a:Un fs ex H H1 h h1)(b:Un fs ex H1 H2 h1 h2):Un fs ex H H2 h h2 where
 keep:=λc d q n f e=>b.keep c d (a.keep c d q n f e) (a.free c d q n e) f e
 slot:=λc d q n f e=>by
  obtain⟨o,e1⟩:=a.slot c d q n f e;obtain⟨i,e2⟩:=b.slot c _ e1 (a.free c d q n e) f e;exact⟨i,e2⟩
 free:=λc d q n e=>by
  obtain⟨j,e1⟩:=a.there c d q e;exact b.free c j e1 (a.free c d q n e) e
 there:=λc d q e=>by
  obtain⟨j,e1⟩:=a.there c d q e;exact b.there c j e1 e
 tups:=λc g q=>b.tups c g (a.tups c g q)
 frzs:=λc d g q=>b.frzs c d g (a.frzs c d g q)
 tbls:=λc m q=>by
  obtain⟨k,e1⟩:=a.tbls c m q;obtain⟨l,e2⟩:=b.tbls c _ e1;exact⟨k++l,by rw[e2,S8]⟩
def Un.kept(k:∀ b u,h.get? b=some u->h'.get? b=some u):Un fs ex H H h h':=
 ⟨λb a q _ _ _=>k b a q,λb a q _ _ _=>⟨a.slots,k b a q⟩,λ_ _ _ n _=>n,λb a q _=>⟨a,k b a q⟩,λ_ _ q=>q,λ_ _ _ q=>q,λ_ c q=>⟨#[],by rw[q];simp⟩⟩
def Un.refl:Un fs ex H H h h:=Un.kept λ_ _ q=>q
def Un.laid(k:∀ b u,h.get? b=some u->h'.get? b=some u)(e:h.objs.size<=a)(c:H a=none):Un fs ex H (upd H a o) h h' where
 keep:=λb u q _ _ _=>k b u q
 slot:=λb u q _ _ _=>⟨u.slots,k b u q⟩
 free:=λb u q n _=>by rw[ap (QH (Qv (Qo q) e))];exact n
 there:=λb u q _=>⟨u,k b u q⟩
 tups:=λb d q=>by rw[ap (aD q c)];exact q
 frzs:=λb u d q=>by rw[ap (aD q c)];exact q
 tbls:=λb f q=>⟨#[],by rw[ap (aD q c),q];simp⟩
def Un.write(c:Mut (H x))(j:e=x\/H e=some (.own x))(k:∀ b u,b≠e->h.get? b=some u->h'.get? b=some u)(d:∃ u,h'.get? e=some u):Un fs ex H (upd H x o) h h':=by
 have g:∀ b,H b=none->b≠x:=λb n z=>by subst z;rw[n]at c;exact c
 have i:∀ b,H b=none->b≠e:=λb n z=>by
  subst z;rcases j with r | r
  . exact g b n r
  . rw[n]at r;cases r
 have f:∀ b u,H b=some u->¬ Mut (some u)->b≠x:=λb u q m z=>by subst z;rw[q]at c;exact m c
 refine⟨λb u q n _ _=>k b u (i b n) q,λb u q n _ _=>⟨u.slots,k b u (i b n) q⟩,λb u q n _=>by rw[ap (g b n)];exact n,λb u q _=>?_,
  λb l q=>by rw[ap (f b _ q λz=>z)];exact q,λb u l q=>by rw[ap (f b _ q λz=>z)];exact q,λb p q=>⟨#[],by rw[ap (f b _ q λz=>z),q];simp⟩⟩
 by_cases a:b=e
 . subst a;exact d
 . exact⟨u,k b u a q⟩
end
def trk(h:Heap)(H:Hp):List Addr:=(List.range h.objs.size).filter λa=>(H a).isSome
def hidT(h:Heap)(H:Hp):Heap:=PySem.W.hideAll h (trk h H)
def GM(h:Heap)(H:Hp):(hidT h H).objs.size=h.objs.size:=PySem.W.hideAll_size _ _
def IC{o:Obj}(e:h.get? b=some o)(n:H b=none):(hidT h H).get? b=some o:=
 Sj _ e λa=>by
  have q:(H b).isSome=true:=(QB.mp a).2;rw[n]at q;simp at q
theorem JE{o:Obj}(e:(hidT h H).get? b=some o):h.get? b=some o/\H b=none:=by
 have a:h.get? b=some o:=S9 (trk h H) e;refine⟨a,?_⟩
 cases q:H b with
 | none=>rfl
 | some x=>
  have c:b∈trk h H:=QB.mpr ⟨Qf.mpr (Qo a),by simp[q]⟩;have z:(hidT h H).get? b=none:=RL (trk h H) c;rw[z]at e;cases e
structure Mod(K:Frag)(mg:Str->Option Value)(base:Heap):Prop where
 kin:K.In base
 glob:base.Ns mainGlobals mg
 blt:∃ mb,base.Ns builtinsNs mb/\∀ x:Str,x≠"__name__"->mb x=bootBuiltins x
 nolimit:base.NoLimit
structure Cx where
 prog:Program
 w:World
 K:Frag
 mg:Str->Option Value
 base:Heap
 A:Around
 N:List Str
 s₀:Shared
 H₀:Hp
 env:Env
 outer:List Env
 stack:List Env
 ex:List Addr
 fn:Str->Bool
 calm:Bool
 pn:List (Addr × Obj)
 xe:Value->Shared->Prop
def frs(l:List Env):List Addr:=l.filterMap (·.frame)
abbrev Cx.fs(X:Cx):List Addr:=frs X.outer
def Vis(a:Scope)(x:Str):Prop:=a.names.lookup x=some .local\/a.names.lookup x=some .cell\/a.names.lookup x=some .free
def Loc(a:Scope)(x:Str):Prop:=a.names.lookup x=some .local\/a.names.lookup x=some .cell
def Look(env:Env)(h:Heap)(m:Str->Option Value)(x:Str)(u:Value):Prop:=
 (env.kindOf x=some .local/\m x=some u)\/((env.kindOf x=some .cell\/env.kindOf x=some .free)/\∃ c,env.cells.lookup x=some c/\h.IsCell c (some u))
structure Cx.Ok(X:Cx):Prop where
 mod:Mod X.K X.mg X.base
 kind:X.env.scope.kind=.function
 glob:X.env.globals=mainGlobals
 blt:X.env.builtins=builtinsNs
 above:X.s₀.heap.objs.size<=X.env.locals
 inj:∀ x y c,X.env.cells.lookup x=some c->X.env.cells.lookup y=some c->x=y
 has:∀ x,(X.env.kindOf x=some .cell\/X.env.kindOf x=some .free)->∃ c,X.env.cells.lookup x=some c
 cab:∀ x c,X.fn x=true->X.env.cells.lookup x=some c->X.s₀.heap.objs.size<=c
 hd:X.calm=true->X.A.handled=none
 frames:X.A.frames=some X.stack
 stk:X.stack=X.outer\/(X.stack=X.env::X.outer/\X.env.frame=some X.env.locals)
 exf:∀ b∈X.ex,b≠X.env.locals/\∀ x c,X.env.cells.lookup x=some c->c≠b
 bs:∀ b o,X.base.get? b=some o->X.s₀.heap.get? b=some o/\X.H₀ b=none
 bsz:X.base.objs.size<=X.s₀.heap.objs.size
 noex:∀ b o,X.base.get? b=some o->b∉X.ex
 exfs:∀ b∈X.ex,b∉X.fs
 funs:X.s₀.heap.FunFrames X.base X.outer
 frf:∀ b∈X.fs,X.H₀ b=none
structure Inv(X:Cx)(PN:List (Addr × Obj))(σ:List (Option V))(H:Hp)(s:Shared):Prop where
 ok:X.Ok
 os:s.os=X.s₀.os
 bare:AllBare s.gens
 base:Un X.fs X.ex X.H₀ H X.s₀.heap s.heap
 loc:∃ m,s.heap.Ns X.env.locals m/\∀(i:Nat) (x:Str) (v:V),X.N[i]? =some x->σ[i]? =some (some v)->Vis X.env.scope x->∃ u,RelV v u/\Look X.env s.heap m x u
 cell:∀ x c,X.env.cells.lookup x=some c->∃ v,s.heap.IsCell c v
 free:H X.env.locals=none
 freeC:∀ x c,X.env.cells.lookup x=some c->H c=none
 pin:∀ p∈X.pn++PN,s.heap.get? p.1=some p.2/\H p.1=none/\p.1≠X.env.locals/\p.1∉X.fs/\∀ v,p.2.data≠.cell v
 hok:HOk X.prog X.w H s.heap
 len:σ.length=X.N.length
section
variable{X:Cx}{PN:List (Addr × Obj)}{σ:List (Option V)}{H H':Hp}{s:Shared}{h':Heap}
def Cx.Ok.nofr(a:X.Ok){b:Addr}{o:Obj}(e:X.base.get? b=some o):b∉X.fs:=λc=>by
 have:=(a.funs.mem c).1;rw[e]at this;cases this
def Inv.bs(I:Inv X PN σ H s):∀ b o,X.base.get? b=some o->s.heap.get? b=some o/\H b=none:=λb o e=>
 ⟨I.base.keep b o (I.ok.bs b o e).1 (I.ok.bs b o e).2 (I.ok.nofr e) (I.ok.noex b o e),I.base.free b o (I.ok.bs b o e).1 (I.ok.bs b o e).2 (I.ok.noex b o e)⟩
def Inv.bk(I:Inv X PN σ H s):∀ b o,X.base.get? b=some o->s.heap.get? b=some o:=λb o e=>(I.bs b o e).1
def Inv.mod(I:Inv X PN σ H s):Mod X.K X.mg X.base:=I.ok.mod
def Inv.kIn(I:Inv X PN σ H s):X.K.In s.heap:=I.ok.mod.kin.keeps I.bk
def Inv.lt(I:Inv X PN σ H s):X.env.locals<s.heap.objs.size:=let ⟨_,a,_⟩:=I.loc;a.lt
def Inv.sz(I:Inv X PN σ H s):X.s₀.heap.objs.size<=s.heap.objs.size:=Qa I.ok.above (QT I.lt)
def Inv.nofs(I:Inv X PN σ H s){a:Addr}(h:s.heap.objs.size<=a):a∉X.fs:=λb=>by
 obtain⟨_,o,c,_⟩:=I.ok.funs.mem b;exact absurd (Qv (Qo c) (Qa I.sz h)) (Rv _)
def Inv.cne(I:Inv X PN σ H s):∀ x c,X.env.cells.lookup x=some c->c≠X.env.locals:=λx c e z=>by
 obtain⟨v,o,d,f⟩:=I.cell x c e;obtain⟨m,⟨i,g,h,a,b,_⟩,_⟩:=I.loc;rw[z,a]at d;cases d;rw[b]at f;cases f
def Inv.funs(I:Inv X PN σ H s):s.heap.FunFrames X.base X.outer:=by
 have a:∀(l:List Env),(∀ b∈frs l,b∈X.fs)->X.s₀.heap.FunFrames X.base l->s.heap.FunFrames X.base l:=by
  intro l
  induction l with
  | nil=>intro _ _;trivial
  | cons h r m=>
   intro g j;obtain⟨k,⟨L,o,c,i,q,p⟩,n⟩:=j;have f:L∈X.fs:=g L (by unfold frs;rw[Rg,c];exact Qm);obtain⟨t,e⟩:=I.base.slot L o q (I.ok.frf L f) f λz=>I.ok.exfs L z f;exact⟨k,⟨L,_,c,i,e,p⟩,m (λb d=>g b (by unfold frs;rw[Rg,c];exact Qg _ d)) n⟩
 exact a X.outer (λ_ d=>d) I.ok.funs
def Inv.stack(I:Inv X PN σ H s):s.heap.FunFrames X.base X.stack:=by
 rcases I.ok.stk with e | ⟨e,a⟩
 . rw[e];exact I.funs
 . rw[e];obtain⟨m,b,_⟩:=I.loc;refine .cons (by rw[I.ok.kind];decide) a b ?_ I.funs;exact RM (Qa I.ok.bsz I.ok.above)
def Inv.stkSub(I:Inv X PN σ H s):∀ b∈frs X.stack,b∈X.env.locals::X.fs:=λb a=>by
 rcases I.ok.stk with e | ⟨e,c⟩
 . rw[e]at a;exact Qg _ a
 . rw[e]at a;unfold frs at a;rw[Rg,c]at a;exact a
def Inv.stkFree(I:Inv X PN σ H s):∀ b∈frs X.stack,H b=none:=λb a=>by
 rcases Qs.mp (I.stkSub b a) with e | a
 . rw[e];exact I.free
 . obtain⟨_,o,c,_⟩:=I.ok.funs.mem a;exact I.base.free b o c (I.ok.frf b a) λz=>I.ok.exfs b z a
def Inv.step {g':Array GenState} {t':Nat} {d':Drawn} {ch:List Addr} (I:Inv X PN σ H s)
  (j:∀ b∈ch,(b∈X.ex\/X.s₀.heap.objs.size<=b)/\b≠X.env.locals/\(∀ x c,X.env.cells.lookup x=some c->c≠b)/\∀ p∈X.pn++PN,p.1≠b)
  (t:∀ b o,b≠X.env.locals->b∉X.fs->b∉ch->s.heap.get? b=some o->H b=none->h'.get? b=some o)
  (A:∀ b o,b≠X.env.locals->b∈X.fs->b∉ch->s.heap.get? b=some o->H b=none->∃ O,h'.get? b=some {o with slots:=O}) (f:∀ b o,b∉ch->s.heap.get? b=some o->H b=none->H' b=none)
  (C:∀ b o,b∉ch->s.heap.get? b=some o->∃ E,h'.get? b=some E)
  (K:∀ b xs,H b=some (.tup xs)->H' b=some (.tup xs)) (J:∀ b o u,H b=some (.frz o u)->H' b=some (.frz o u)) (L:∀ b M,H b=some (.tbl M)->∃ G,H' b=some (.tbl (M++G)))
  (ns:∀ m,s.heap.Ns X.env.locals m->h'.Ns X.env.locals m) (P:HOk X.prog X.w H' h') (W:AllBare g'):
  Inv X PN σ H' {s with heap:=h',gens:=g',drawn:=d',toks:=t'}:=by
 have F:∀ b o,X.s₀.heap.get? b=some o->b≠X.env.locals:=λb o e=>QH (Qv (Qo e) I.ok.above)
 have y:∀ b o,X.s₀.heap.get? b=some o->b∉X.ex->b∉ch:=λb o e a B=>by
  rcases(j b B).1 with z | z
  . exact a z
  . exact absurd (Qv (Qo e) z) (Rv _)
 have h:∀ x c,X.env.cells.lookup x=some c->∀ v,s.heap.IsCell c v->h'.IsCell c v:=λx c e v ⟨o,D,Q⟩=>by
  have g:c∉ch:=λz=>(j c z).2.2.1 x c e rfl;by_cases R:c∈X.fs
  . obtain⟨O,q⟩:=A c o (I.cne x c e) R g D (I.freeC x c e);exact⟨_,q,Q⟩
  . exact⟨o,t c o (I.cne x c e) R g D (I.freeC x c e),Q⟩
 refine⟨I.ok,I.os,W,⟨λb o e n B a=>?_,λb o e n B a=>?_,λb o e n a=>?_,λb o e a=>?_,λb xs e=>K b xs (I.base.tups b xs e),λb o xs e=>J b o xs (I.base.frzs b o xs e),λb M e=>?_⟩,?_,λx c e=>?_,?_,λx c e=>?_,λp T=>?_,P,I.len⟩
 . exact t b o (F b o e) B (y b o e a) (I.base.keep b o e n B a) (I.base.free b o e n a)
 . obtain⟨O,e1⟩:=I.base.slot b o e n B a;obtain⟨N,e2⟩:=A b _ (F b o e) B (y b o e a) e1 (I.base.free b o e n a);exact⟨N,e2⟩
 . obtain⟨E,e1⟩:=I.base.there b o e a;exact f b E (y b o e a) e1 (I.base.free b o e n a)
 . obtain⟨E,e1⟩:=I.base.there b o e a;exact C b E (y b o e a) e1
 . obtain⟨m1,e1⟩:=I.base.tbls b M e;obtain⟨Y,e2⟩:=L b _ e1;exact⟨m1++Y,by rw[e2,S8]⟩
 . obtain⟨m,hn,hl⟩:=I.loc;refine⟨m,ns m hn,λi x v e1 e2 Z=>?_⟩;obtain⟨u,r,l⟩:=hl i x v e1 e2 Z;refine⟨u,r,?_⟩;rcases l with l | ⟨k,c,e,z⟩
   . exact .inl l
   . exact .inr ⟨k,c,e,h x c e _ z⟩
 . obtain⟨v,z⟩:=I.cell x c e;exact⟨v,h x c e v z⟩
 . obtain⟨m,⟨o,_,_,D,_⟩,_⟩:=I.loc;exact f _ o (λz=>(j _ z).2.1 rfl) D I.free
 . obtain⟨v,o,D,Q⟩:=I.cell x c e;exact f c o (λz=>(j c z).2.2.1 x c e rfl) D (I.freeC x c e)
 . obtain⟨e,n,S,U,d⟩:=I.pin p T;have g:p.1∉ch:=λz=>(j p.1 z).2.2.2 p T rfl;exact⟨t p.1 p.2 S U g e n,f p.1 p.2 g e n,S,U,d⟩
def Inv.un{t':Nat}(I:Inv X PN σ H s)(u:Un X.fs [] H H' s.heap h')(g:HOk X.prog X.w H' h'):Inv X PN σ H' {s with heap:=h',toks:=t'}:=by
 obtain⟨m,⟨o,l,p,h,r⟩,_⟩:=id I.loc;obtain⟨q,i⟩:=u.any h I.free (by simp)
 exact I.step (g':=s.gens) (d':=s.drawn) (ch:=[]) (λ_ z=>nomatch z) (λb o _ d _ e n=>u.keep b o e n d (by simp)) (λb o _ d _ e n=>u.slot b o e n d (by simp)) (λb o _ e n=>u.free b o e n (by simp)) (λb o _ e=>u.there b o e (by simp)) u.tups u.frzs u.tbls (λv k=>by
  obtain⟨t,f,c,a,j⟩:=k;rw[h]at a;cases a;exact⟨_,f,c,i,j⟩) g I.bare
def Inv.call {g':Array GenState} {t':Nat} {d':Drawn} {ch:List Addr} (I:Inv X PN σ H s) (u:Un (frs X.stack) ch H H' s.heap h') (j:HOk X.prog X.w H' h') (l:AllBare g')
  (d:∀ b∈ch,(b∈X.ex\/X.s₀.heap.objs.size<=b)/\b≠X.env.locals/\(∀ x c,X.env.cells.lookup x=some c->c≠b)/\∀ p∈X.pn++PN,p.1≠b):
  Inv X PN σ H' {s with heap:=h',gens:=g',drawn:=d',toks:=t'}:=by
 obtain⟨m,⟨o,y,A,k,r⟩,_⟩:=id I.loc;obtain⟨B,h⟩:=u.any k I.free λz=>(d _ z).2.1 rfl
 exact I.step (ch:=ch) d (λb o h q a e n=>u.keep b o e n (λz=>(Qs.mp (I.stkSub b z)).elim h q) a) (λb o _ _ a e n=>u.any e n a) (λb o a e n=>u.free b o e n a) (λb o a e=>u.there b o e a) u.tups u.frzs u.tbls (λD v=>by
  obtain⟨C,i,g,f,t⟩:=v;rw[k]at f;cases f;exact⟨_,i,g,h,t⟩) j l
def Inv.turned {t':Nat} {it:Addr} (I:Inv X PN σ H s) (k:∀ b o,b≠it->s.heap.get? b=some o->h'.get? b=some o) (i:H it=none) (f:it≠X.env.locals)
  (h1:it∈X.ex\/X.s₀.heap.objs.size<=it) (h2:∀ x c,X.env.cells.lookup x=some c->c≠it) (h3:∀ p∈X.pn++PN,p.1≠it):Inv X PN σ H {s with heap:=h',toks:=t'}:=by
 have d:∀ b u,H b=some u->b≠it:=λb u e z=>by rw[z,i]at e;cases e
 refine I.step (g':=s.gens) (d':=s.drawn) (ch:=[it]) (λb h=>?_) (λb o _ _ a e _=>k b o (λz=>a (by simp[z])) e) (λb o _ _ a e _=>⟨o.slots,k b o (λz=>a (by simp[z])) e⟩) (λ_ _ _ _ n=>n)
  (λb o a e=>⟨o,k b o (λz=>a (by simp[z])) e⟩) (λ_ _ e=>e) (λ_ _ _ e=>e) (λb w e=>⟨#[],by rw[e];simp⟩) (λm l=>?_) (λb u e=>?_) I.bare
 . have e:b=it:=by simpa using h
   subst e;exact⟨h1,f,h2,h3⟩
 . obtain⟨o,g,j,t,r⟩:=l;exact⟨o,g,j,k _ o (S3 f) t,r⟩
 . refine(I.hok b u e).stay (λc v a q=>k c v ?_ q) (λ_ q=>q) λ_ _ q=>q;rcases a with z | z
   . rw[z];exact d b u e
   . exact d c _ z
def Inv.tok(I:Inv X PN σ H s)(t:Nat):Inv X PN σ H {s with toks:=t}:=I.un (h':=s.heap) (t':=t) Un.refl I.hok
def Inv.kept{t':Nat}(I:Inv X PN σ H s)(k:∀ b u,s.heap.get? b=some u->h'.get? b=some u):Inv X PN σ H {s with heap:=h',toks:=t'}:=I.un (Un.kept k) (I.hok.kept k)
def Inv.laid{a:Addr}{o:HO}{t':Nat}(I:Inv X PN σ H s)(k:∀ b u,s.heap.get? b=some u->h'.get? b=some u)(c:s.heap.objs.size<=a)(d:ObjOk X.prog X.w (upd H a o) h' a o):
  Inv X PN σ (upd H a o) {s with heap:=h',toks:=t'}:=I.un (Un.laid k c (I.hok.fresh c)) (I.hok.laid k c d)
def Inv.write {x e:Addr} {o:HO} {t':Nat} (I:Inv X PN σ H s) (d:Mut (H x)) (f:e=x\/H e=some (.own x)) (k:∀ b u,b≠e->s.heap.get? b=some u->h'.get? b=some u) (a:∃ u,h'.get? e=some u)
  (c:ObjOk X.prog X.w (upd H x o) h' x o):Inv X PN σ (upd H x o) {s with heap:=h',toks:=t'}:=I.un (Un.write d f k a) (I.hok.write d f k a c)
def Inv.pins_of{a:List (Addr × Obj)}(I:Inv X PN σ H s)(h:∀ p∈a,s.heap.get? p.1=some p.2/\H p.1=none/\p.1≠X.env.locals/\p.1∉X.fs/\∀ v,p.2.data≠.cell v):Inv X a σ H s:=
 ⟨I.ok,I.os,I.bare,I.base,I.loc,I.cell,I.free,I.freeC,λp b=>(QD.mp b).elim (λz=>I.pin p (RN _ z)) (h p),I.hok,I.len⟩
def xc{N:List Str}(c:N.Nodup){i j:Nat}{x:Str}(a:N[i]? =some x)(b:N[j]? =some x):i=j:=by
 obtain⟨h1,e1⟩:=P8.mp a;obtain⟨h2,e2⟩:=P8.mp b;exact(List.getElem_inj c).mp (e1.trans e2.symm)
def AK {M:Model} {A:Around} {E:Value->Shared->Prop} {i:Nat} {x:Str} {v:V} {u:Value} {Q:Unit->Shared->Prop} (I:Inv X PN σ H s) (hN:X.N.Nodup) (L:X.N[i]? =some x) (t:Loc X.env.scope x) (r:RelV v u)
  (h:∀ s',Inv X PN (σ.set i (some v)) H s'->(∃ a,Heap.SameBut a s.heap s'.heap/\(a=X.env.locals\/X.env.cells.lookup x=some a))->Q () s') (hf:X.fn x=true\/X.env.scope.names.lookup x=some .local:=by first | exact .inl rfl | exact .inr rfl | assumption):wpAny M A (storeName X.env x u) Q E s:=by
 obtain⟨m,hn,hl⟩:=id I.loc;have T:(X.env.scope.kind==.class||(X.env.scope.kind==.module&&X.env.locals != X.env.globals))=false:=by rw[I.ok.kind];rfl
 have O:i<σ.length:=by rw[I.len];exact(P8.mp L).1
 have J:=I.cne
 have g:∀{a:Addr} {h':Heap},(∃ o,s.heap.get? a=some o/\H a=none)->Heap.SameBut a s.heap h'->HOk X.prog X.w H h':=λ{a h'} ha f b ob e=>by
  obtain⟨_,_,B⟩:=ha;refine(I.hok b ob e).stay (λc Y l q=>(f.2 c ?_).trans q) (λ_ q=>q) λ_ _ q=>q;rintro rfl;rcases l with rfl | l
  . rw[B]at e;cases e
  . rw[B]at l;cases l
 rcases t with C | C
 . refine wpAny_storeName_local C hn (λh' ab f=>?_) T;obtain⟨oL,_,_,ac,_⟩:=id hn;refine h _ ⟨I.ok,I.os,I.bare,⟨λb o e n F t=>?_,λb o e n F t=>?_,I.base.free,λb o e t=>?_,I.base.tups,I.base.frzs,I.base.tbls⟩,⟨_,ab,λj y v' e1 e2 e3=>?_⟩,λy c e=>?_,I.free,I.freeC,λp hp=>?_,g ⟨oL,ac,I.free⟩ f,by simpa using I.len⟩ ⟨_,f,.inl rfl⟩
   . exact(f.2 b (QH (Qv (Qo e) I.ok.above))).trans (I.base.keep b o e n F t)
   . obtain⟨sl,e1⟩:=I.base.slot b o e n F t;exact⟨sl,(f.2 b (QH (Qv (Qo e) I.ok.above))).trans e1⟩
   . obtain⟨Z,e1⟩:=I.base.there b o e t;exact⟨Z,(f.2 b (QH (Qv (Qo e) I.ok.above))).trans e1⟩
   . by_cases G:j=i
     . subst G;rw[L]at e1;cases e1;rw[Ss O]at e2;cases e2;exact⟨u,r,.inl ⟨C,by simp⟩⟩
     . rw[SV (S3 G)]at e2;obtain⟨u',r',q⟩:=hl j y v' e1 e2 e3;refine⟨u',r',?_⟩;rcases q with ⟨k,e⟩ | ⟨k,c,e,z⟩
       . refine .inl ⟨k,?_⟩;have:y≠x:=λe=>G (xc hN e1 (e ▸ L));simp[this,e]
       . exact .inr ⟨k,c,e,z.sameBut f (J y c e)⟩
   . obtain⟨Y,z⟩:=I.cell y c e;exact⟨Y,z.sameBut f (J y c e)⟩
   . obtain⟨e,n,W,nf,d⟩:=I.pin p hp;exact⟨(f.2 p.1 W).trans e,n,W,nf,d⟩
 . have D:X.fn x=true:=by
    rcases hf with z | z
    . exact z
    . rw[z]at C;cases C
   obtain⟨c,l⟩:=I.ok.has x (.inl C);obtain⟨Y,z⟩:=I.cell x c l;refine wpAny_storeName_cell I.ok.kind C l z (λh' R f=>?_);obtain⟨oc,S,P⟩:=id z;refine h {s with heap:=h'} ⟨I.ok,I.os,I.bare,⟨λb o e n F t=>?_,λb o e n F t=>?_,I.base.free,λb o e t=>?_,I.base.tups,I.base.frzs,I.base.tbls⟩,⟨m,hn.sameBut f (S3 (J x c l)),λj y v' e1 e2 e3=>?_⟩,λy U e=>?_,I.free,I.freeC,λp hp=>?_,g ⟨oc,S,I.freeC x c l⟩ f,by simpa using I.len⟩ ⟨c,f,.inr l⟩
   . exact(f.2 b (QH (Qv (Qo e) (I.ok.cab x c D l)))).trans (I.base.keep b o e n F t)
   . obtain⟨sl,e1⟩:=I.base.slot b o e n F t;exact⟨sl,(f.2 b (QH (Qv (Qo e) (I.ok.cab x c D l)))).trans e1⟩
   . obtain⟨Z,e1⟩:=I.base.there b o e t;exact⟨Z,(f.2 b (QH (Qv (Qo e) (I.ok.cab x c D l)))).trans e1⟩
   . by_cases G:j=i
     . subst G;rw[L]at e1;cases e1;rw[Ss O]at e2;cases e2;exact⟨u,r,.inr ⟨.inl C,c,l,R⟩⟩
     . rw[SV (S3 G)]at e2;obtain⟨u',r',q⟩:=hl j y v' e1 e2 e3;refine⟨u',r',?_⟩;rcases q with q | ⟨k,U,e,z'⟩
       . exact .inl q
       . refine .inr ⟨k,U,e,z'.sameBut f ?_⟩;rintro rfl;exact G (xc hN e1 (I.ok.inj _ _ _ e l ▸ L))
   . by_cases K:U=c
     . subst K;exact⟨_,R⟩
     . obtain⟨w2,z2⟩:=I.cell y U e;exact⟨w2,z2.sameBut f K⟩
   . obtain⟨e,n,W,nf,d⟩:=I.pin p hp;refine⟨(f.2 p.1 ?_).trans e,n,W,nf,d⟩;intro q;rw[q,S]at e;have q':oc=p.2:=RE e;exact d Y (by rw[← q'];exact P)
def rX {M:Model} {A:Around} {E:Value->Shared->Prop} {i:Nat} {x:Str} {v:V} {u:Value} {Q:Unit->Shared->Prop} (I:Inv X PN σ H s) (c:X.N.Nodup) (a:X.N[i]? =some x) (e:Loc X.env.scope x) (r:RelV v u)
  (h:∀ s',Inv X PN (σ.set i (some v)) H s'->Q () s') (b:X.fn x=true\/X.env.scope.names.lookup x=some .local:=by first | exact .inl rfl | exact .inr rfl | assumption):wpAny M A (storeName X.env x u) Q E s:=
 AK I c a e r (λs' d _=>h s' d) b
def Inv.call' {s':Shared} {ch:List Addr} (I:Inv X PN σ H s) (j:s'.os=s.os) (u:Un (frs X.stack) ch H H' s.heap s'.heap) (d:HOk X.prog X.w H' s'.heap) (i:AllBare s'.gens)
  (a:∀ b∈ch,(b∈X.ex\/X.s₀.heap.objs.size<=b)/\b≠X.env.locals/\(∀ x c,X.env.cells.lookup x=some c->c≠b)/\∀ p∈X.pn++PN,p.1≠b):Inv X PN σ H' s':=by
 obtain⟨h',g,f,h,k⟩:=s';have e:k=s.os:=j;subst e;exact I.call (g':=g) (t':=h) (d':=f) u d i a
end
abbrev XK:=Value->Option Addr->Hp->Prop
abbrev St:=List (Option V)
abbrev VK:=V->Hp->Prop
abbrev TE:=St->Hp->VK->Prop
abbrev TT:=St->Hp->(Bool->Hp->Prop)->Prop
abbrev TA:=St->Hp->(List V->Hp->Prop)->Prop
structure Ends where
 nx:St->Hp->Prop
 rt:VK
 bk:St->Hp->Prop:=λ_ _=>False
 ct:St->Hp->Prop:=λ_ _=>False
abbrev TS:=Ends->St->Hp->Prop
def EP(X:Cx)(b:List (Addr × Obj))(σ:St)(Q:VK)(u:Value)(s':Shared):Prop:=∃ v a,Inv X b σ a s'/\RelV v u/\Q v a
def TP(X:Cx)(c:List (Addr × Obj))(σ:St)(Q:Bool->Hp->Prop)(b:Bool)(s':Shared):Prop:=∃ a,Inv X c σ a s'/\Q b a
def AP(X:Cx)(b:List (Addr × Obj))(σ:St)(Q:List V->Hp->Prop)(us:List Value)(s':Shared):Prop:=∃ vs a,Inv X b σ a s'/\Vals vs us/\Q vs a
def SP(X:Cx)(c:List (Addr × Obj))(D:Ends)(f:Flow)(s':Shared):Prop:=
 match f with
 | .next=>∃ b a,Inv X c b a s'/\D.nx b a
 | .brk=>∃ b a,Inv X c b a s'/\D.bk b a
 | .cont=>∃ b a,Inv X c b a s'/\D.ct b a
 | .ret u=>∃ v b a,Inv X c b a s'/\RelV v u/\D.rt v a
def PE(X:Cx)(e:Expr)(t:TE):Prop:=
 ∀(a:List (Addr × Obj)) (s:Shared) (σ:St) (H:Hp) (Q:VK),Inv X a σ H s->t σ H Q->wpAny (model X.prog X.w) X.A (eval e X.env) (EP X a σ Q) X.xe s
def PT(X:Cx)(e:Expr)(t:TT):Prop:=
 ∀(a:List (Addr × Obj)) (s:Shared) (σ:St) (H:Hp) (Q:Bool->Hp->Prop),Inv X a σ H s->t σ H Q->wpAny (model X.prog X.w) X.A (isTrue e X.env (eval e X.env)) (TP X a σ Q) X.xe s
def PW(X:Cx)(e:Expr)(t:TT):Prop:=
 ∀(b:Sem Value) (a:List (Addr × Obj)) (s:Shared) (σ:St) (H:Hp) (Q:Bool->Hp->Prop),Inv X a σ H s->t σ H Q->wpAny (model X.prog X.w) X.A (isTrue e X.env b) (TP X a σ Q) X.xe s
def PW.pt{X:Cx}{e:Expr}{t:TT}(h:PW X e t):PT X e t:=h _
abbrev Rx:=@PW.pt
def PA(X:Cx)(c:List Expr)(t:TA):Prop:=
 ∀(a:Pos) (b:List (Addr × Obj)) (s:Shared) (σ:St) (H:Hp) (Q:List V->Hp->Prop),Inv X b σ H s->t σ H Q->wpAny (model X.prog X.w) X.A (spliced (backTo a (starEach c X.env))) (AP X b σ Q) X.xe s
def PS(X:Cx)(st:Stmt)(t:TS):Prop:=
 ∀(a:List (Addr × Obj)) (s:Shared) (σ:St) (H:Hp) (D:Ends),Inv X a σ H s->t D σ H->wpAny (model X.prog X.w) X.A (exec st X.env) (SP X a D) X.xe s
def PSs(X:Cx)(st:List Stmt)(t:TS):Prop:=
 ∀(a:List (Addr × Obj)) (s:Shared) (σ:St) (H:Hp) (D:Ends),Inv X a σ H s->t D σ H->wpAny (model X.prog X.w) X.A (execs st X.env) (SP X a D) X.xe s
def thn{α:Type}{t:Sem α}{Q b:α->Shared->Prop}{M:Model}{A:Around}{E:Value->Shared->Prop}{s:Shared}(h:wpAny M A t Q E s)(c:∀ a s,Q a s->b a s):wpAny M A t b E s:=QX h c λ_ _ x=>x
section
variable{X:Cx}
def vB:Option (Option V)->(V->Prop)->Prop
 | some (some v),k=>k v
 | _,_=>False
def Jt{o:Option (Option V)}{k:V->Prop}(h:vB o k):∃ v,o=some (some v)/\k v:=by
 rcases o with _ | _ | v
 . cases h
 . cases h
 . exact⟨v,rfl,h⟩
def rY{o:Option (Option V)}{k:V->Prop}{v:V}(e:o=some (some v))(h:k v):vB o k:=by subst e;exact h
def tVar(i:Nat):TE:=λσ H Q=>vB σ[i]? λv=>Q v H
def tC(v:V):TE:=λ_ H Q=>Q v H
def KI{i:Nat}{x:Str}{pos:Pos}(o:X.N[i]? =some x)(n:Vis X.env.scope x)(f:(x==("__debug__":Str))=false:=by decide)(g:(x==("__classdict__":Str))=false:=by decide):PE X (.Name x pos) (tVar i):=by
 intro q s σ H Q I h;obtain⟨v,e,h⟩:=Jt h;obtain⟨m,k,p⟩:=I.loc;obtain⟨u,r,l⟩:=p i x v o e n;have d:EP X q σ Q u s:=⟨v,H,I,r,h⟩;rcases l with ⟨b,t⟩ | ⟨b,c,j,a⟩
 . exact wpAny_Name (wpAny_loadName_local I.ok.kind b k t d) f
 . rcases b with b | b
   . exact wpAny_Name (wpAny_loadName_cell I.ok.kind b j a d) f
   . exact wpAny_Name (wpAny_loadName_free I.ok.kind b j a d g) f
def ae{i j pos}:PE X (.Constant (.int i) j pos) (tC (.int i)):=λ_ _ _ H _ I h=>wpAny_Constant_int ⟨.int i,H,I.tok _,⟨_,rfl⟩,h⟩
def bw{b j pos}:PE X (.Constant (.bool b) j pos) (tC (.bl b)):=λ_ _ _ H _ I h=>Constant_bool ⟨.bl b,H,I,rfl,h⟩
def cw{j pos}:PE X (.Constant .none j pos) (tC .non):=λ_ _ _ H _ I h=>Constant_none ⟨.non,H,I,rfl,h⟩
def av{x j pos}:PE X (.Constant (.str x) j pos) (tC (.str x)):=λ_ _ _ H _ I h=>Calls.Constant_str ⟨.str x,H,I.tok _,⟨_,rfl⟩,h⟩
def Gl(X:Cx)(x:Str):Prop:=X.env.kindOf x=some .globalImplicit
def lY {E:Value->Shared->Prop} {c:List (Addr × Obj)} {s:Shared} {σ:St} {H:Hp} {x:Str} {u:Value} {pos:Pos} {Q:Value->Shared->Prop} (I:Inv X c σ H s) (b:Gl X x) (a:X.mg x=some u) (h:Q u s)
  (d:(x==("__debug__":Str))=false:=by decide):wpAny (model X.prog X.w) X.A (eval (.Name x pos) X.env) Q E s:=
 Ta I.ok.kind b (Calls.loadGlobal_global (by rw[I.ok.glob];exact I.mod.glob.keeps I.bk) a h) d
def jz {E:Value->Shared->Prop} {e:List (Addr × Obj)} {s:Shared} {σ:St} {H:Hp} {x:Str} {u:Value} {pos:Pos} {Q:Value->Shared->Prop} (I:Inv X e σ H s) (a:Gl X x) (f:X.mg x=none) (c:bootBuiltins x=some u) (h:Q u s)
  (b:x≠"__name__":=by decide) (d:(x==("__debug__":Str))=false:=by decide):wpAny (model X.prog X.w) X.A (eval (.Name x pos) X.env) Q E s:=by
 obtain⟨g,h1,h2⟩:=I.mod.blt;exact Ta I.ok.kind a (Calls.loadGlobal_builtin (by rw[I.ok.glob];exact I.mod.glob.keeps I.bk) f (by rw[I.ok.blt];exact h1.keeps I.bk) ((h2 x b).trans c) h) d
def bB{x:Str}{v:V}{u:Value}{pos:Pos}(b:Gl X x)(a:X.mg x=some u)(r:RelV v u)(c:(x==("__debug__":Str))=false:=by decide):PE X (.Name x pos) (tC v):=
 λ_ _ _ H _ I h=>lY I b a ⟨v,H,I,r,h⟩ c
def fF{x:Str}{v:V}{u:Value}{pos:Pos}(a:Gl X x)(e:X.mg x=none)(c:bootBuiltins x=some u)(r:RelV v u)(b:x≠"__name__":=by decide)(d:(x==("__debug__":Str))=false:=by decide):PE X (.Name x pos) (tC v):=
 λ_ _ _ H _ I h=>jz I a e c ⟨v,H,I,r,h⟩ b d
variable{a b:Expr}{ta tb:TE}{pos:Pos}
def tB(t:TE):TT:=λσ H Q=>t σ H λx a=>∃ c,x=.bl c/\Q c a
def aG{e:Expr}{t:TE}(h:PE X e t)(i:∀ a,isTrue e X.env a=(do let v ← a;standAt e.pos;holding [v] (truthy v)):=by intro _;rfl):PT X e (tB t):=by
 intro k s σ H Q I b;refine isTrue_plain (thn (h k s σ H _ I b) λv l ⟨x,g,c,j,f⟩=>?_) (i _);obtain⟨d,rfl,q⟩:=f;cases j;exact Ri ⟨g,c,q⟩
variable{tA tB':TT}{rest:List Expr}
def tAnd(t u:TT):TT:=λσ H Q=>t σ H λc a=>if c=true then u σ a Q else Q false a
def tOr(t u:TT):TT:=λσ H Q=>t σ H λc a=>if c=true then Q true a else u σ a Q
def tNot(t:TT):TT:=λσ H Q=>t σ H λc a=>Q (!c) a
theorem dw(d:PT X a tA):PW X (.BoolOp .And [a] pos) tA:=by
 intro f b s σ H Q I h;refine isTrue_and (thn (d b s σ H Q I h) λc g e=>?_)
 cases c with
 | true=>exact isTrue_and_nil e
 | false=>exact e
theorem bA(d:PT X a tA):PW X (.BoolOp .Or [a] pos) tA:=by
 intro f b s σ H Q I h;refine isTrue_or (thn (d b s σ H Q I h) λc g e=>?_)
 cases c with
 | false=>exact isTrue_or_nil e
 | true=>exact e
theorem dI(k:PT X a tA)(j:PW X (.BoolOp .And (b::rest) pos) tB'):PW X (.BoolOp .And (a::b::rest) pos) (tAnd tA tB'):=by
 intro l g s σ H Q I h;refine isTrue_and (thn (k g s σ H _ I h) λc i ⟨f,d,e⟩=>?_)
 cases c with
 | true=>exact j l g i σ f Q d e
 | false=>exact⟨f,d,e⟩
theorem bf(k:PT X a tA)(j:PW X (.BoolOp .Or (b::rest) pos) tB'):PW X (.BoolOp .Or (a::b::rest) pos) (tOr tA tB'):=by
 intro l g s σ H Q I h;refine isTrue_or (thn (k g s σ H _ I h) λc i ⟨f,d,e⟩=>?_)
 cases c with
 | true=>exact⟨f,d,e⟩
 | false=>exact j l g i σ f Q d e
def bn(d:PT X a tA):PT X (.UnaryOp .Not a pos) (tNot tA):=by
 intro b s σ H Q I h;exact isTrue_not (d b s σ H (λc e=>Q (!c) e) I h)
def tAndV(ta tb:TE):TE:=λσ H Q=>ta σ H λx a=>∃ c,x=.bl c/\if c=true then tb σ a Q else Q (.bl false) a
def tOrV(ta tb:TE):TE:=λσ H Q=>ta σ H λx a=>∃ c,x=.bl c/\if c=true then Q (.bl true) a else tb σ a Q
def tNotV(ta:TE):TE:=λσ H Q=>ta σ H λx a=>∃ c,x=.bl c/\Q (.bl (!c)) a
def bp{op}{t:TE}(h:PE X a t):PE X (.BoolOp op [a] pos) t:=λc s σ H Q I b=>BoolOp_one (h c s σ H Q I b)
theorem bh(k:PE X a ta)(j:PE X (.BoolOp .And (b::rest) pos) tb):PE X (.BoolOp .And (a::b::rest) pos) (tAndV ta tb):=by
 intro g s σ H Q I h;refine BoolOp_and (thn (k g s σ H _ I h) λv i ⟨x,f,e,l,d⟩=>?_);obtain⟨c,rfl,d⟩:=d;cases l;refine Ri ?_
 cases c with
 | true=>exact j g i σ f Q e d
 | false=>exact⟨.bl false,f,e,rfl,d⟩
theorem ye(k:PE X a ta)(j:PE X (.BoolOp .Or (b::rest) pos) tb):PE X (.BoolOp .Or (a::b::rest) pos) (tOrV ta tb):=by
 intro g s σ H Q I h;refine BoolOp_or (thn (k g s σ H _ I h) λv i ⟨x,f,e,l,d⟩=>?_);obtain⟨c,rfl,d⟩:=d;cases l;refine Ri ?_
 cases c with
 | false=>exact j g i σ f Q e d
 | true=>exact⟨.bl true,f,e,rfl,d⟩
def t5(f:PE X a ta):PE X (.UnaryOp .Not a pos) (tNotV ta):=by
 intro i s σ H Q I h;refine UnaryOp_ (thn (f i s σ H _ I h) λv j ⟨x,e,d,g,b⟩=>?_);obtain⟨c,rfl,b⟩:=b;cases g;exact not_of (Ri ⟨.bl (!c),e,d,rfl,b⟩)
def tIf(t:TT)(ta tb:TE):TE:=λσ H Q=>t σ H λc a=>if c=true then ta σ a Q else tb σ a Q
theorem jN{c:Expr}(l:PT X c tA)(m:PE X a ta)(k:PE X b tb):PE X (.IfExp c a b pos) (tIf tA ta tb):=by
 intro e s σ H Q I h;refine wpAny_IfExp (thn (l e s σ H _ I h) λd i ⟨j,g,f⟩=>?_)
 cases d with
 | true=>exact m e i σ j Q g f
 | false=>exact k e i σ j Q g f
end
def SqL(K:Frag)(H:Hp)(a:Addr)(xs:List V):Prop:=
 Rd H a (.lst xs)\/
  ∃(o:Obj) (b:Array Value) (n:Nat),K.lookup a=some o/\o.cls=.type "list"/\o.dict=none/\o.data=.seq b n/\b.size<=sizeLine/\Vals xs b.toList
def SqT(K:Frag)(H:Hp)(a:Addr)(xs:List V):Prop:=
 Rd H a (.tup xs)\/
  ∃(o:Obj) (b:Array Value) (n:Nat),K.lookup a=some o/\o.cls=.type "tuple"/\o.data=.seq b n/\b.size<=sizeLine/\Vals xs b.toList
def absV:Value->Option V
 | .none=>some .non
 | .bool b=>some (.bl b)
 | .int i _=>⇑i
 | .str x _=>some (.str x)
 | .bytes b _=>some (.byt b)
 | .float b _=>some (.flt b)
 | .ref a=>↑a
 | .type n=>some (.ty n)
 | _=>none
variable{u:Value}
theorem RelV.abs{x:V}(r:RelV x u):absV u=some x:=by
 cases x with
 | non=>cases r;rfl
 | bl _=>cases r;rfl
 | int _=>obtain⟨t,rfl⟩:=r;rfl
 | str _=>obtain⟨t,rfl⟩:=r;rfl
 | byt _=>obtain⟨t,rfl⟩:=r;rfl
 | flt _=>obtain⟨t,rfl⟩:=r;rfl
 | ref _=>cases r;rfl
 | ty _=>cases r;rfl
def RelV.inj{x y:V}(r:RelV x u)(q:RelV y u):x=y:=RE (r.abs.symm.trans q.abs)
theorem Vals.inj:∀{xs ys:List V} {us:List Value},Vals xs us->Vals ys us->xs=ys
 | _,_,_,.nil,.nil=>rfl
 | _,_,_,.cons r t,.cons r' t'=>by rw[r.inj r',Vals.inj t t']
section
variable{X:Cx}{PN:List (Addr × Obj)}{σ:St}{H:Hp}{s:Shared}{a:Addr}{xs ys:List V}
def SqL.of{K:Frag}(h:H a=↥xs):SqL K H a xs:=.inl (.inl h)
abbrev Qh:=@SqL.of
def SqT.of{K:Frag}(h:H a=some (.tup xs)):SqT K H a xs:=.inl (.inl h)
abbrev Ud:=@SqT.of
def Inv.list(I:Inv X PN σ H s)(h:SqL X.K H a xs):∃ PU:List Value,Vals xs PU/\PlainL s.heap a PU.toArray/\xs.length<=sizeLine:=by
 rcases h with h | ⟨o,PU,n,c,d,f,b,g,r⟩
 . obtain⟨z,PU,n,r,e⟩:=h.ok I.hok;exact⟨PU,r,⟨_,n,e,rfl,rfl,rfl⟩,z⟩
 . refine⟨PU.toList,r,⟨o,n,I.kIn a o c,d,f,by simpa using b⟩,?_⟩;have e:=r.length;simp only[Sk]at e;omega
def Inv.tuple(I:Inv X PN σ H s)(h:SqT X.K H a xs):∃ PU:List Value,Vals xs PU/\IsTup s.heap a PU.toArray/\xs.length<=sizeLine:=by
 rcases h with h | ⟨o,PU,n,c,d,b,f,r⟩
 . obtain⟨z,PU,r,p⟩:=h.ok I.hok;exact⟨PU,r,p,z⟩
 . refine⟨PU.toList,r,⟨o,I.kIn a o c,d,n,by simpa using b⟩,?_⟩;have e:=r.length;simp only[Sk]at e;omega
def Inv.list_inj(I:Inv X PN σ H s)(h:SqL X.K H a xs)(h':SqL X.K H a ys):xs=ys:=by
 obtain⟨g,r,⟨o,n,e,_,_,d⟩,_⟩:=I.list h;obtain⟨b,i,⟨k,j,f,_,_,c⟩,_⟩:=I.list h';rw[e]at f;cases f;rw[d]at c;injection c with d1 _;have:g=b:=by simpa using congrArg Array.toList d1
 subst this;exact r.inj i
def Inv.tuple_inj(I:Inv X PN σ H s)(h:SqT X.K H a xs)(h':SqT X.K H a ys):xs=ys:=by
 obtain⟨g,r,⟨o,e,_,n,d⟩,_⟩:=I.tuple h;obtain⟨b,i,⟨k,f,_,j,c⟩,_⟩:=I.tuple h';rw[e]at f;cases f;rw[d]at c;injection c with d1 _;have:g=b:=by simpa using congrArg Array.toList d1
 subst this;exact r.inj i
end
abbrev Cx.wish(X:Cx)(E:Value->Shared->Prop):Cx:={X with xe:=E}
abbrev Cx.nox(X:Cx):Cx:=X.wish λ_ _=>False
variable{X:Cx}
def Cx.Ok.wish(a:X.Ok)(E:Value->Shared->Prop):(X.wish E).Ok:=
 ⟨a.mod,a.kind,a.glob,a.blt,a.above,a.inj,a.has,a.cab,a.hd,a.frames,a.stk,a.exf,a.bs,a.bsz,a.noex,a.exfs,a.funs,a.frf⟩
variable{E:Value->Shared->Prop}
def Cx.Ok.unwish(a:(X.wish E).Ok):X.Ok:=
 ⟨a.mod,a.kind,a.glob,a.blt,a.above,a.inj,a.has,a.cab,a.hd,a.frames,a.stk,a.exf,a.bs,a.bsz,a.noex,a.exfs,a.funs,a.frf⟩
section
variable{X:Cx}{PN:List (Addr × Obj)}{σ:St}{H:Hp}{s:Shared}{E:Value->Shared->Prop}
def Inv.wish(I:Inv X PN σ H s)(E:Value->Shared->Prop):Inv (X.wish E) PN σ H s:=⟨I.ok.wish E,I.os,I.bare,I.base,I.loc,I.cell,I.free,I.freeC,I.pin,I.hok,I.len⟩
def Inv.unwish(I:Inv (X.wish E) PN σ H s):Inv X PN σ H s:=⟨I.ok.unwish,I.os,I.bare,I.base,I.loc,I.cell,I.free,I.freeC,I.pin,I.hok,I.len⟩
theorem SP.unwish{D:Ends}{f:Flow}{s':Shared}(h:SP (X.wish E) PN D f s'):SP X PN D f s':=by
 cases f with
 | next=>obtain⟨b,a,I,q⟩:=h;exact⟨b,a,I.unwish,q⟩
 | brk=>obtain⟨b,a,I,q⟩:=h;exact⟨b,a,I.unwish,q⟩
 | cont=>obtain⟨b,a,I,q⟩:=h;exact⟨b,a,I.unwish,q⟩
 | ret u=>obtain⟨v,b,a,I,r,q⟩:=h;exact⟨v,b,a,I.unwish,r,q⟩
def PSs.nox{st:List Stmt}{t:TS}(h:PSs X.nox st t):PSs X st t:=λPN s σ H D I a=>
 QX (h PN s σ H D (I.wish _) a) (λ_ _ q=>q.unwish) λ_ _ z=>False.elim z
end
section
variable{X:Cx}{st:Stmt}{rest:List Stmt}{t u:TS}{e:Expr}{te:TE}{pos:Pos}
def tNext:TS:=λD σ H=>D.nx σ H
def tSeq(t u:TS):TS:=λD σ H=>t {D with nx:=u D} σ H
def ao:PSs X [] tNext:=λ_ _ σ H _ I h=>Sa ⟨σ,H,I,h⟩
theorem af(h1:PS X st t)(h2:PSs X rest u):PSs X (st::rest) (tSeq t u):=by
 intro a s σ H D I h;refine Tz (thn (h1 a s σ H {D with nx:=u D} I h) λf b q=>?_)
 cases f with
 | next=>
  obtain⟨e,d,c,q⟩:=q;exact h2 a b e d D c q
 | ret v=>exact q
 | brk=>exact q
 | cont=>exact q
theorem ag(h1:PS X st t):PSs X [st] t:=by
 intro a s σ H D I h;refine Tz (thn (h1 a s σ H D I h) λf b q=>?_)
 cases f with
 | next=>exact Sa q
 | ret v=>exact q
 | brk=>exact q
 | cont=>exact q
def Inv.quiet{a:List (Addr × Obj)}{σ:St}{H:Hp}{s:Shared}(I:Inv X a σ H s):interactive X.env=false:=by simp[interactive,I.ok.kind]
def tDrop(te:TE):TS:=λD σ H=>te σ H λ_ a=>D.nx σ a
def dR(d:PE X e te)(a:swapsWith e none pos.line X.env=pure false:=by rfl):PS X (.Expr e pos) (tDrop te):=by
 intro g s σ H D I h;exact wpAny_Expr_any (thn (d g s σ H _ I h) λv i ⟨x,f,b,j,c⟩=>⟨σ,f,b,c⟩) I.quiet a
def tRet(te:TE):TS:=λD σ H=>te σ H D.rt
def ah(c:PE X e te):PS X (.Return (some e) pos) (tRet te):=by
 intro g s σ H D I h;exact wpAny_Return_some (thn (c g s σ H _ I h) λv i ⟨x,d,a,f,b⟩=>⟨x,σ,d,a,f,b⟩)
def tRetN:TS:=λD _ H=>D.rt .non H
def tIfS(c:TT)(t u:TS):TS:=λD σ H=>c σ H λb a=>if b=true then t D σ a else u D σ a
theorem au{c:Expr}{a b:List Stmt}{k:TT}(m:PT X c k)(n:PSs X a t)(l:PSs X b u):PS X (.If c a b pos) (tIfS k t u):=by
 intro e s σ H D I h;refine wpAny_If (thn (m e s σ H _ I h) λd i ⟨j,f,g⟩=>?_)
 cases d with
 | true=>exact n e i σ j D f g
 | false=>exact l e i σ j D f g
def dY:TS:=λ_ _ _=>False
def cx:PS X st dY:=λ_ _ _ _ _ _ h=>h.elim
end
abbrev TG:=V->St->Hp->(St->Hp->Prop)->Prop
abbrev TGs:=List V->St->Hp->(St->Hp->Prop)->Prop
def PG(X:Cx)(a:Expr)(t:TG):Prop:=
 ∀(d:List (Addr × Obj)) (s:Shared) (σ:St) (H:Hp) (v:V) (u:Value) (Q:St->Hp->Prop),Inv X d σ H s->RelV v u->t v σ H Q->
  wpAny (model X.prog X.w) X.A (assign a X.env u) (λ_ e=>∃ c b,Inv X d c b e/\Q c b) X.xe s
def PGs(X:Cx)(ts:List Expr)(t:TGs):Prop:=
 ∀(d:List (Addr × Obj)) (s:Shared) (σ:St) (H:Hp) (vs:List V) (a:List Value) (Q:St->Hp->Prop),Inv X d σ H s->Vals vs a->t vs σ H Q->
  wpAny (model X.prog X.w) X.A (assignInOrder ((assignEach ts X.env).map (·.2)) a) (λ_ e=>∃ c b,Inv X d c b e/\Q c b) X.xe s
abbrev TSet:=V->V->V->Hp->(Hp->Prop)->Prop
def PSet(X:Cx)(t:TSet):Prop:=
 ∀(d:List (Addr × Obj)) (s:Shared) (σ:St) (H:Hp) (o i v:V) (b a u:Value) (Q:Hp->Prop),Inv X d σ H s->RelV o b->RelV i a->RelV v u->t o i v H Q->
  wpAny (model X.prog X.w) X.A (setItem b a u) (λ_ e=>∃ c,Inv X d σ c e/\Q c) X.xe s
section
variable{X:Cx}{pos:Pos}
def gName(i:Nat):TG:=λv σ H Q=>Q (σ.set i (some v)) H
def ar{i:Nat}{x:Str}(c:X.N.Nodup)(a:X.N[i]? =some x)(e:Loc X.env.scope x)(b:X.fn x=true\/X.env.scope.names.lookup x=some .local:=by first | exact .inl rfl | exact .inr rfl | assumption):PG X (.Name x pos) (gName i):=by
 intro g s σ H v u Q I r h;exact wpAny_assign_Name (rX I c a e r (λf d=>⟨_,H,d,h⟩) b)
def gNil:TGs:=λvs σ H Q=>vs=[]/\Q σ H
def gCons(t:TG)(u:TGs):TGs:=λvs σ H Q=>∃ v r,vs=v::r/\t v σ H λb a=>u r b a Q
def gX:PGs X [] gNil:=by
 intro b s σ H vs a Q I r h;obtain⟨e,h⟩:=h;subst e;cases r;exact assignInOrder_nil ⟨σ,H,I,h⟩
theorem aY {e:Expr} {a:List Expr} {t:TG} {u:TGs} (h1:PG X e t) (h2:PGs X a u)
  (c:(assignEach (e::a) X.env).map (·.2)=assign e X.env::(assignEach a X.env).map (·.2):=by rfl):PGs X (e::a) (gCons t u):=by
 intro b s σ H vs m Q I r h;obtain⟨v,l,e1,h⟩:=h;subst e1
 cases r with
 | cons r k=>
  rw[c];refine assignInOrder_cons (thn (h1 b s σ H _ _ _ I r h) λ_ g ⟨j,i,d,f⟩=>?_);exact h2 b g j i _ _ Q d k f
def gTup(K:Frag)(n:Nat)(t:TGs):TG:=λv σ H Q=>∃ a b,v=.ref a/\SqT K H a b/\b.length=n/\t b σ H Q
def jA {c:List Expr} {k:Nat} {t:TGs} {n:Nat} (w:X.calm=true) (h:PGs X c t)
  (m:(assignEach c X.env).length=n:=by rfl) (d:(assignEach c X.env).findIdx? (·.1)=none:=by rfl):PG X (.Tuple c k pos) (gTup X.K n t):=by
 intro i s σ H v u Q I r f;obtain⟨a,y,e1,l,p,f⟩:=f;subst e1;cases r;obtain⟨B,g,q,A⟩:=I.tuple l;refine assign_Tuple_tuple (I.ok.hd w) q (by simp[m,← p,g.length]) d λx z=>?_;have j:Inv X i σ H {s with heap:=x}:=I.kept (t':=s.toks) λb o e=>z b o (QH (Qo e)) e;exact h i _ σ H y _ Q j (by simpa using g) f
def gSub(e d:TE)(t:TSet):TG:=λv σ H Q=>e σ H λo b=>d σ b λi a=>t o i v a λc=>Q σ c
def yf {o i:Expr} {d e:TE} {t:TSet} (w:PE X o d) (j:PE X i e) (z:PSet X t)
  (F:∀ v,assign (.Subscript o i pos) X.env v=(do
   let a ← holding [v] (eval o X.env);let b ← holding [v,a] (eval i X.env)
   standAt pos
   holding [v,a,b] (setItem a b v)
   release [v,a,b] []):=by intro _;rfl):PG X (.Subscript o i pos) (gSub d e t):=by
 intro c s σ H v u Q I r h;rw[F];refine Qq (SS (thn (w c s σ H _ I h) λa D ⟨x,m,k,n,C⟩=>?_));refine Qq (SS (thn (j c D σ m _ k C) λb B ⟨y,A,f,g,q⟩=>?_));refine Qq (ST (Qq (SS (thn (z c B σ A x y v a b u _ f n g r q) λ_ G ⟨E,p,l⟩=>?_))));exact wpAny_release ⟨σ,E,p,l⟩
def tAsg(a:TE)(g:TG):TS:=λD σ H=>a σ H λx b=>g x σ b D.nx
def mP {a e:Expr} {b:TE} {g:TG} (n:PE X e b) (d:PG X a g) (f:swapsWithSole [a] e pos.line X.env=pure false:=by rfl) (i:swappedStores [a] e X.env=pure none:=by rfl)
  (h1:(assignEach [a] X.env).map (·.2)=[assign a X.env]:=by rfl):PS X (.Assign [a] e pos) (tAsg b g):=by
 intro c s σ H D I h;refine wpAny_Assign_stores (thn (n c s σ H _ I h) λv l ⟨x,m,j,o,k⟩=>?_) f i;rw[h1];exact thn (d c l σ m x v _ j o k) λ_ p q=>q
def gS{i:Nat}{x:Str}{e:Expr}{b:TE}{a:Pos}(k:X.N.Nodup)(d:X.N[i]? =some x)(q:Loc X.env.scope x)(n:PE X e b)(f:swapsWith e (some (.Name x a)) pos.line X.env=pure false:=by rfl)(j:X.fn x=true\/X.env.scope.names.lookup x=some .local:=by first | exact .inl rfl | exact .inr rfl | assumption):
  PS X (.Assign [.Name x a] e pos) (tAsg b (gName i)):=by
 intro p s σ H D I h;refine wpAny_Assign_Name (thn (n p s σ H _ I h) λv t ⟨y,l,g,o,m⟩=>?_) f;exact rX g k d q o (λr c=>⟨_,l,c,m⟩) j
end
section
variable{X:Cx}{pos:Pos}
def t6(c:TT)(g:TS):TS:=λD σ H=>∃ W:Nat->St->Hp->Prop,(∃ m,W m σ H)/\∀ m σ H,W m σ H->
 c σ H λb d=>if b=true then ∃ N:St->Hp->Prop,(∀ f e,N f e->∃ a,a<m/\W a f e)/\g {D with nx:=N,ct:=N,bk:=D.nx} σ d else D.nx σ d
theorem xf{c:Expr}{a:List Stmt}{x:TT}{y:TS}(B:PassesOwn (model X.prog X.w) X.A X.env X.xe)(J:PT X c x)(M:PSs X a y):PS X (.While c a [] pos) (t6 x y):=by
 intro q s σ H D I h;obtain⟨W,⟨O,P⟩,g⟩:=h;refine wpAny_While (codeAny_whileLoop (λn L=>∃ u E,Inv X q u E L/\W n u E) ?_ O ⟨σ,H,I,P⟩);rintro n R ⟨k,z,G,K⟩;refine RI B (thn (J q R k z _ G (g n k z K)) λb Q ⟨F,t,j⟩=>?_)
 cases b with
 | true=>
  obtain⟨N,C,j⟩:=j;rw[Qt rfl];refine RI B (thn (M q Q k F _ t j) λf S i=>?_)
  cases f with
  | next=>
   obtain⟨e,d,p,m⟩:=i;obtain⟨r,o,l⟩:=C e d m;exact⟨r,o,e,d,p,l⟩
  | cont=>
   obtain⟨e,d,p,m⟩:=i;obtain⟨r,o,l⟩:=C e d m;exact⟨r,o,e,d,p,l⟩
  | brk=>exact i
  | ret v=>exact i
 | false=>
  rw[Qp P7];exact Sa ⟨k,F,t,j⟩
end
structure It where
 go:Nat->Hp->Prop
 yld:Nat->Hp->V->Hp->Prop
 stop:Nat->Hp->Prop
def FpOk(X:Cx)(a:List (Addr × Obj))(H:Hp)(b:Addr):Prop:=
 H b=none/\b≠X.env.locals/\b∉X.fs/\(b∈X.ex\/X.s₀.heap.objs.size<=b)/\(∀ x c,X.env.cells.lookup x=some c->c≠b)/\∀ p∈X.pn++a,p.1≠b
variable{s:Shared}
def Inv.fpOk{f:List (Addr × Obj)}{σ:St}{H d:Hp}{b:Addr}(I:Inv X f σ H s)(a:s.heap.objs.size<=b)(h:d b=none):FpOk X f d b:=by
 refine⟨h,S4 (Qv I.lt a),I.nofs a,.inr (Qa I.sz a),λx c e z=>?_,λp g z=>?_⟩
 . obtain⟨v,q⟩:=I.cell x c e;exact absurd (Qv q.lt (by rw[z];exact a)) (Rv _)
 . exact absurd (Qv (Qo (I.pin p g).1) (by rw[z];exact a)) (Rv _)
structure Turn(P:Program)(w:World)(K:Frag)(tg:Expr)(J:It)(fp:List Addr)(it:Addr)(tn:Nat->Heap->Prop):Prop where
 mem:it∈fp
 obj:∀ i h,tn i h->∀ b∈fp,∃ o,h.get? b=some o/\∀ v,o.data≠.cell v
 keep:∀ i h h',tn i h->(∀ b∈fp,∀ o,h.get? b=some o->h'.get? b=some o)->tn i h'
 item:∀(X:Cx),X.prog=P->X.w=w->X.K=K->X.calm=true->∀(i:Nat) (PN:List (Addr × Obj)) (s:Shared) (σ:St) (H:Hp) (E:Value->Shared->Prop),Inv X PN σ H s->(∀ b∈fp,FpOk X PN H b)->tn i s.heap->J.go i H->
  wpAny (model P w) X.A (pyNext (.ref it)) (λr s1=>∃ u,r=some u/\
   wpAny (model P w) X.A (letOwnedTupleGo tg (.ref it) u) (λ_ s2=>∃ x H',Inv X PN σ H' s2/\RelV x u/\J.yld i H x H'/\tn (i+1) s2.heap/\∀ b∈fp,H' b=none) E s1) E s
 done:∀(X:Cx),X.prog=P->X.w=w->X.K=K->X.calm=true->∀(i:Nat) (PN:List (Addr × Obj)) (s:Shared) (σ:St) (H:Hp) (E:Value->Shared->Prop),Inv X PN σ H s->(∀ b∈fp,FpOk X PN H b)->tn i s.heap->J.stop i H->
  wpAny (model P w) X.A (pyNext (.ref it)) (λr s1=>r=none/\Inv X PN σ H s1) E s
 self:∀(A:Around) (i:Nat) (s:Shared) (Q:Value->Shared->Prop) (E:Value->Shared->Prop),tn i s.heap->Q (.ref it) s->wpAny (model P w) A (pyIter (.ref it)) Q E s
abbrev TI:=St->Hp->(It->Hp->Prop)->Prop
def PIE(X:Cx)(h:List (Addr × Obj))(σ:St)(i:Expr)(R:It->Hp->Prop)(a:Value)(f:Shared):Prop:=
 ∃(d:Addr) (g:List Addr) (e:Nat->Heap->Prop) (J:It) (c:Hp),a=.ref d/\Inv X h σ c f/\Turn X.prog X.w X.K i J g d e/\e 0 f.heap/\(∀ b∈g,FpOk X h c b)/\R J c
def PI(X:Cx)(c a:Expr)(e:TI):Prop:=
 ∀(b:List (Addr × Obj)) (s:Shared) (σ:St) (H:Hp) (R:It->Hp->Prop),Inv X b σ H s->e σ H R->
  wpAny (model X.prog X.w) X.A (eval a X.env) (λv d=>wpAny (model X.prog X.w) X.A (pyIter v) (PIE X b σ c R) X.xe d) X.xe s
variable{tg:Expr}
def BY {M:Model} {A:Around} {it:Addr} {o:Obj} {n:String} {vs:Array Value} {Q:Unit->Shared->Prop} (e:s.heap.get? it=some o) (c:o.cls=.type n) (d:o.data=.fields vs)
  (b:["enumerate","zip","dict_itemiterator","dict_reverseitemiterator","odict_iterator","itertools.zip_longest","itertools.pairwise"].contains n=false) (a:Q () s):wpAny M A (letOwnedTupleGo tg (.ref it) u) Q E s:=by
 unfold letOwnedTupleGo
 cases tg <;> first
  | exact QN a
  | (cases u <;> first
    | exact QN a
    | (refine Qq (wpAny_load e ?_)
       rw[c,d];show wpAny M A (if (["enumerate","zip","dict_itemiterator","dict_reverseitemiterator","odict_iterator","itertools.zip_longest","itertools.pairwise"].contains n&&vs[0]? ==some (rawInt _))=true then _ else _) Q E s;rw[Qp (by intro h;rw[b,P9]at h;cases h)];exact QN a))
def Itl(K:Frag)(a:Addr):It:=
 ⟨λi H=>∃ b x,SqL K H a b/\b[i]? =some x,λi H x c=>c=H/\∀ b,SqL K H a b->b[i]? =some x,λi H=>∃ b,SqL K H a b/\b.length<=i⟩
def Itt(K:Frag)(a:Addr):It:=
 ⟨λi H=>∃ b x,SqT K H a b/\b[i]? =some x,λi H x c=>c=H/\∀ b,SqT K H a b->b[i]? =some x,λi H=>∃ b,SqT K H a b/\b.length<=i⟩
def Itr(a:Int)(n:Nat):It:=⟨λi _=>i<n,λi H x b=>b=H/\x=.int (a+i),λi _=>n<=i⟩
variable{P:Program}{w:World}{K:Frag}
def GN(a it:Addr):Turn P w K tg (Itl K a) [it] it (λi h=>h.IsListIter it a i) where
 mem:=by simp
 obj:=λi h f b g=>by
  have e:b=it:=by simpa using g
  subst e;obtain⟨o,e,c,d⟩:=f;exact⟨o,e,λv z=>by rw[d]at z;cases z⟩
 keep:=λi h n f k=>f.at λo e=>k it (by simp) o e
 item:=by
  intro X G F A L i M s σ H E I l f q;subst G F A;obtain⟨Y,x,m,t⟩:=q;obtain⟨Z,y,p,W⟩:=I.list m;obtain⟨u,U,O⟩:=y.get t;obtain⟨r,C,T,D,J,B⟩:=l it (by simp);refine wpAny_pyNext_list_item f p.isList (x:=u) (by simpa using U) λn j S=>?_;have N:Inv X M σ H {s with heap:=n}:=I.turned (t':=s.toks) (λb o g e=>(S.2 b g).trans e) r C D J B;obtain⟨o,e,c,d⟩:=id j;exact⟨u,rfl,BY (s:={s with heap:=n}) e c d #[1] ⟨x,H,N,O,⟨rfl,λys R=>by rw[I.list_inj R m];exact t⟩,j,λb g=>(l b g).1⟩⟩
 done:=by
  intro X G F A L i M s σ H E I l f q;subst G F A;obtain⟨Y,m,t⟩:=q;obtain⟨Z,y,p,W⟩:=I.list m;obtain⟨r,C,T,D,J,B⟩:=l it (by simp);have hl:=y.length;exact wpAny_pyNext_list_end (I.ok.hd L) f p.isList (by simp;omega) λn Q=>⟨rfl,I.turned (t':=s.toks) (λb o g e=>Q b o g e) r C D J B⟩
 self:=λ_ _ _ _ _ f h=>wpAny_pyIter_listiter f h
def Fx(a it:Addr):Turn P w K tg (Itt K a) [it] it (λi h=>h.IsTupleIter it a i) where
 mem:=by simp
 obj:=λi h f b g=>by
  have e:b=it:=by simpa using g
  subst e;obtain⟨o,e,c,d⟩:=f;exact⟨o,e,λv z=>by rw[d]at z;cases z⟩
 keep:=λi h n f k=>f.at λo e=>k it (by simp) o e
 item:=by
  intro X G F A M i N s σ H E I l f q;subst G F A;obtain⟨Z,x,m,t⟩:=q;obtain⟨J,y,p,Y⟩:=I.tuple m;obtain⟨u,W,Q⟩:=y.get t;obtain⟨r,C,U,D,L,B⟩:=l it (by simp);refine wpAny_pyNext_tuple_item f (show s.heap.IsTuple a J.toArray from p) (x:=u) (by simpa using W) λn j T=>?_;have O:Inv X N σ H {s with heap:=n}:=I.turned (t':=s.toks) (λb o g e=>(T.2 b g).trans e) r C D L B;obtain⟨o,e,c,d⟩:=id j;exact⟨u,rfl,BY (s:={s with heap:=n}) e c d #[1] ⟨x,H,O,Q,⟨rfl,λys S=>by rw[I.tuple_inj S m];exact t⟩,j,λb g=>(l b g).1⟩⟩
 done:=by
  intro X G F A M i N s σ H E I l f q;subst G F A;obtain⟨Z,m,t⟩:=q;obtain⟨J,y,p,Y⟩:=I.tuple m;obtain⟨r,C,U,D,L,B⟩:=l it (by simp);have hl:=y.length;exact wpAny_pyNext_tuple_end (I.ok.hd M) f (show s.heap.IsTuple a J.toArray from p) (by simp;omega) λn R=>⟨rfl,I.turned (t':=s.toks) (λb o g e=>R b o g e) r C D L B⟩
 self:=λ_ _ _ _ _ f h=>wpAny_pyIter_tupleiter f h
def Fy(it:Addr)(g:Int)(n:Nat):Turn P w K tg (Itr g n) [it] it (λi h=>IsRangeIter h it (g+(i:Nat)*1) ((n:Int) - (i:Nat)) 1) where
 mem:=by simp
 obj:=λi h a b c=>by
  have e:b=it:=by simpa using c
  subst e
  exact⟨_,a,λv z=>by
   have N:Data.fields _=Data.cell v:=z;cases N⟩
 keep:=λi h j a k=>k it (by simp) _ a
 item:=by
  intro X A y q p i D s σ H E I f a l;subst A y q;obtain⟨m,u,L,x,B,r⟩:=f it (by simp);have W:=Walks.range (prog:=X.prog) (w:=X.w) (I.ok.hd p) it g 1 n;refine W.item i s _ _ l a λv j C G d M=>?_;obtain⟨t,rfl⟩:=G;have F:Inv X D σ H {s with heap:=j,toks:=C}:=I.turned (λb o c e=>M b o (by simpa using c) e) m u x B r;refine⟨_,rfl,BY (s:={s with heap:=j,toks:=C}) (n:="range_iterator") d rfl rfl #[1] ⟨.int (g+i),H,F,⟨t,?_⟩,⟨rfl,rfl⟩,d,λb c=>(f b c).1⟩⟩;rw[Int.mul_one]
 done:=by
  intro X A y q p i D s σ H E I f a l;subst A y q;obtain⟨m,u,L,x,B,r⟩:=f it (by simp);exact wpAny_pyNext_range_end (I.ok.hd p) a (by have:n<=i:=l;omega) λj J=>⟨rfl,I.turned (t':=s.toks) (λb o c e=>J b o c e) m u x B r⟩
 self:=λ_ _ _ _ _ a h=>wpAny_pyIter_rangeiter a h
section
variable{X:Cx}{tg:Expr}
def iList(K:Frag)(c:TE):TI:=λσ H R=>c σ H λx b=>∃ a,x=.ref a/\(∃ d,SqL K b a d)/\R (Itl K a) b
def iTup(K:Frag)(c:TE):TI:=λσ H R=>c σ H λx b=>∃ a,x=.ref a/\(∃ d,SqT K b a d)/\R (Itt K a) b
def aF{l:Expr}{f:TE}(j:PE X l f):PI X tg l (iList X.K f):=by
 intro r s σ H R I h;refine thn (j r s σ H _ I h) λv d ⟨x,k,c,n,m⟩=>?_;obtain⟨a,e,⟨w,g⟩,q⟩:=m;subst e;cases n;obtain⟨y,t,p,u⟩:=c.list g;refine Su p.isList ?_;refine⟨d.heap.objs.size,[d.heap.objs.size],_,_,k,rfl,c.kept (t':=d.toks) λb o e=>Qb _ e,GN a _,⟨_,QG _ rfl,rfl,rfl⟩,λb i=>?_,q⟩;have e:b=d.heap.objs.size:=by simpa using i
 subst e;exact c.fpOk (Qd _) (c.hok.fresh (Qd _))
def GO{l:Expr}{f:TE}(j:PE X l f):PI X tg l (iTup X.K f):=by
 intro t s σ H R I h;refine thn (j t s σ H _ I h) λv c ⟨x,k,d,r,m⟩=>?_;obtain⟨a,e,⟨y,g⟩,q⟩:=m;subst e;cases r;obtain⟨n,u,p,w⟩:=d.tuple g;refine wpAny_pyIter_tuple (show c.heap.IsTuple a n.toArray from p) ?_;refine⟨c.heap.objs.size,[c.heap.objs.size],_,_,k,rfl,d.kept (t':=c.toks) λb o e=>Qb _ e,Fx a _,⟨_,QG _ rfl,rfl,rfl⟩,λb i=>?_,q⟩;have e:b=c.heap.objs.size:=by simpa using i
 subst e;exact d.fpOk (Qd _) (d.hok.fresh (Qd _))
def B4 {g:List (Addr × Obj)} {σ:St} {H:Hp} {s:Shared} {R:It->Hp->Prop} {E:Value->Shared->Prop} {a c:Int} {t u v:Tok} {d:Nat} (I:Inv X g σ H s) (h1: -(2^62)<=a) (h2:a<2^62) (h3: -(2^62)<=c) (h4:c<2^62)
  (q:R (Itr a (c-a).toNat) H):wpAny (model X.prog X.w) X.A (pyIter (.ref s.heap.objs.size)) (PIE X g σ tg R) E {s with heap:=s.heap.push {cls:=.type "range",data:=.fields #[.int a t,.int c u,.int 1 v]},toks:=d}:=by
 refine wpAny_pyIter_range (IsRange.new ..) (small_one h1 h2 h3 h4) ?_;have f:Inv X g σ H {s with heap:=s.heap.push {cls:=.type "range",data:=.fields #[.int a t,.int c u,.int 1 v]},toks:=d}:=I.kept λb o e=>Qb _ e
 refine⟨(s.heap.push {cls:=.type "range",data:=.fields #[.int a t,.int c u,.int 1 v]}).objs.size,[(s.heap.push {cls:=.type "range",data:=.fields #[.int a t,.int c u,.int 1 v]}).objs.size],_,_,H,rfl,
  f.kept (t':=d) λb o e=>Qb _ e,Fy _ a (c-a).toNat,?_,λb h=>?_,q⟩
 . have e1:a+((0:Nat):Int)*1=a:=by simp
   have e2:(((c-a).toNat:Nat):Int) - ((0:Nat):Int)=Builtin.Range.rangeSize a c 1:=by rw[rangeSize_one];split <;> omega
   show IsRangeIter _ _ (a+((0:Nat):Int)*1) ((((c-a).toNat:Nat):Int) - ((0:Nat):Int)) 1;rw[e1,e2];exact QG _ rfl
 . have e:b=(s.heap.push {cls:=.type "range",data:=.fields #[.int a t,.int c u,.int 1 v]}).objs.size:=by simpa using h
   subst e;exact f.fpOk (Qd _) (f.hok.fresh (Qd _))
def gc(a:TA):TI:=λσ H R=>a σ H λvs b=>∃ j:Int,vs=[.int j]/\ -(2^62)<=j/\j<2^62/\R (Itr 0 j.toNat) b
def rZ(a:TA):TI:=λσ H R=>a σ H λvs b=>∃ i j:Int,vs=[.int i,.int j]/\(-(2^62)<=i/\i<2^62/\ -(2^62)<=j/\j<2^62)/\R (Itr i (j-i).toNat) b
theorem cP{a:Expr}{c:TA}{p pos:Pos}(d:Gl X "range")(o:X.mg "range"=none)(i:PA X [a] c)(f:starEach [a] X.env=[(false,eval a X.env)]:=by rfl):PI X tg (.Call (.Name "range" p) [a] [] pos) (gc c):=by
 intro n s σ H R I h;refine Call_ (jz I d o boot_range (Q9 (thn (i pos n s σ H _ I h) λw u ⟨vs,v,g,m,b⟩=>?_) f rfl));obtain⟨j,e,b,l,q⟩:=b;subst e
 cases m with
 | cons r k=>
  cases k;obtain⟨t,rfl⟩:=r;exact call_range_1 (B4 g #[0] #[0] b l (by simpa using q))
theorem t7{a b:Expr}{g:TA}{p pos:Pos}(k:Gl X "range")(o:X.mg "range"=none)(y:PA X [a,b] g)(x:starEach [a,b] X.env=[(false,eval a X.env),(false,eval b X.env)]:=by rfl)(c:starEach [b] X.env=[(false,eval b X.env)]:=by rfl):
  PI X tg (.Call (.Name "range" p) [a,b] [] pos) (rZ g):=by
 intro w s σ H R I h;refine Call_ (jz I k o boot_range (Q9 (thn (y pos w s σ H _ I h) λA C ⟨vs,B,l,n,f⟩=>?_) (by rw[x,c]) (by rw[c];rfl)));obtain⟨i,j,e,⟨f,v,m,u⟩,q⟩:=f;subst e
 cases n with
 | cons r d=>
  cases d with
  | cons z d=>
   cases d;obtain⟨t,rfl⟩:=r;obtain⟨D,rfl⟩:=z;exact call_range_2 (B4 l f v m u q)
def tFor(h:TI)(g:TG)(e:TS):TS:=λD σ H=>h σ H λJ j=>∃ W:Nat->Nat->St->Hp->Prop,(∃ m,W 0 m σ j)/\∀ i m σ H,W i m σ H->
 (J.stop i H/\D.nx σ H)\/(J.go i H/\∃ N:St->Hp->Prop,(∀ c a,N c a->∃ b,b<m/\W (i+1) b c a)/\∀ x a,J.yld i H x a->g x σ a λf d=>e {D with nx:=N,ct:=N,bk:=D.nx} f d)
def t8(fp:List Addr)(h:Heap):List (Addr × Obj):=fp.filterMap λb=>(h.get? b).map λo=>(b,o)
def nN{fp:List Addr}{h:Heap}{b:Addr}{o:Obj}(a:b∈fp)(e:h.get? b=some o):(b,o)∈t8 fp h:=List.mem_filterMap.mpr ⟨b,a,by rw[e];rfl⟩
theorem GP{fp:List Addr}{h:Heap}{p:Addr × Obj}(a:p∈t8 fp h):p.1∈fp/\h.get? p.1=some p.2:=by
 obtain⟨b,c,e⟩:=List.mem_filterMap.mp a
 cases q:h.get? b with
 | none=>rw[q]at e;cases e
 | some o=>
  rw[q]at e;have d:(b,o)=p:=RE e;subst d;exact⟨c,q⟩
def Inv.pinned{a:List (Addr × Obj)}{σ:St}{H:Hp}{s:Shared}{fp:List Addr}(I:Inv X a σ H s)(i:∀ b∈fp,FpOk X a H b)(l:∀ b∈fp,∃ o,s.heap.get? b=some o/\∀ v,o.data≠.cell v):Inv X (a++t8 fp s.heap) σ H s:=
 I.pins_of λp h=>(QD.mp h).elim (λz=>I.pin p (QY _ z)) λz=>by
  obtain⟨f,e⟩:=GP z;obtain⟨k,j,g,_⟩:=i p.1 f;obtain⟨o,c,d⟩:=l p.1 f;rw[e]at c;cases c;exact⟨e,k,j,g,d⟩
def Inv.unpinned{a pl:List (Addr × Obj)}{σ:St}{H:Hp}{s:Shared}(I:Inv X (a++pl) σ H s):Inv X a σ H s:=I.pins_of λp b=>I.pin p (QY _ (RN _ b))
def cy {c:Expr} {z:List Stmt} {wi:TI} {g:TG} {tb:TS} {pos:Pos} (M:PassesOwn (model X.prog X.w) X.A X.env X.xe) (hc:X.calm=true) (hi:PI X tg c wi) (hg:PG X tg g) (a:PSs X z tb)
  (hs:∀ x,foldedSetIterable c X.env x=pure x:=by intro _;rfl):PS X (.For tg c z [] pos) (tFor wi g tb):=by
 intro B s σ H D I h;refine wpAny_For (thn (hi B s σ H _ I h) λv s1 h1=>thn h1 λac s2 h2=>?_) hs;obtain⟨it,E,tn,J,H2,e,I2,T,Y,f2,W,⟨m0,w0⟩,R⟩:=h2;subst e;have j:∀{t:Hp},(∀ b∈E,t b=none)->∀ b∈E,FpOk X B t b:=λhn b a=>⟨hn b a,(f2 b a).2⟩;refine codeAny_forLoop_any (λn s'=>∃ i L t,Inv X B L t s'/\tn i s'.heap/\(∀ b∈E,t b=none)/\W i n L t) ?_ m0 ⟨0,σ,H2,I2,Y,λb a=>(f2 b a).1,w0⟩;rintro n s3 ⟨i,Q,S,I3,G,P,w3⟩;rcases R i n Q S w3 with ⟨K,qn⟩ | ⟨go,N,hN,F⟩
 . refine RI M (thn (T.done X rfl rfl rfl hc i B s3 Q S X.xe I3 (j P) G K) λr s4 ⟨hr,I4⟩=>?_);subst hr;exact Sa ⟨Q,S,I4,qn⟩
 . refine RI M (thn (T.item X rfl rfl rfl hc i B s3 Q S X.xe I3 (j P) G go) λr s4 ⟨u,hr,h4⟩=>?_);subst hr;refine RI M (thn h4 λ_ s5 ⟨x,H5,I5,r5,y5,C,Z⟩=>?_);have ab:=I5.pinned (j Z) (T.obj _ _ C);refine RI M (thn (hg _ s5 Q H5 x u _ ab r5 (F x H5 y5)) λ_ s6 ⟨σ6,H6,I6,q6⟩=>?_);refine RI M (thn (a _ s6 σ6 H6 _ I6 q6) λf U y=>?_)
   have p:∀{l:St} {k:Hp},Inv X (B++t8 E s5.heap) l k U->N l k->∃ m,m<n/\∃ i L t,Inv X B L t U/\tn i U.heap/\(∀ b∈E,t b=none)/\W i m L t:=λ{l k} q O=>by
    obtain⟨m',hm,w7⟩:=hN l k O;refine⟨m',hm,i+1,l,k,q.unpinned,T.keep _ _ _ C λb a o e=>(q.pin (b,o) (QY _ (QY _ (nN a e)))).1,λb a=>?_,w7⟩;obtain⟨o,e,d⟩:=T.obj _ _ C b a;exact(q.pin (b,o) (QY _ (QY _ (nN a e)))).2.1
   cases f with
   | next=>obtain⟨l,k,q,O⟩:=y;exact p q O
   | cont=>obtain⟨l,k,q,O⟩:=y;exact p q O
   | brk=>obtain⟨l,k,q,y⟩:=y;exact⟨l,k,q.unpinned,y⟩
   | ret v=>obtain⟨x7,l,k,q,r7,y⟩:=y;exact⟨x7,l,k,q.unpinned,r7,y⟩
end
variable{tb:TS}{D:Ends}{σ:St}{H:Hp}
def dF {K:Frag} {a:Addr} {xs:List V} {g:TG} (b:Nat->St->Hp->Prop) (h0:b 0 σ H) (o:∀ i σ H,i<=xs.length->b i σ H->SqL K H a xs)
  (l:∀ i x σ H,xs[i]? =some x->b i σ H->g x σ H λh f=>tb {D with nx:=b (i+1),ct:=b (i+1),bk:=D.nx} h f) (r:∀ σ H,b xs.length σ H->D.nx σ H):
  ∃ W:Nat->Nat->St->Hp->Prop,(∃ m,W 0 m σ H)/\∀ i m σ H,W i m σ H->
   ((Itl K a).stop i H/\D.nx σ H)\/((Itl K a).go i H/\∃ N:St->Hp->Prop,(∀ j c,N j c->∃ m',m'<m/\W (i+1) m' j c)/\∀ x c,(Itl K a).yld i H x c->g x σ c λh f=>tb {D with nx:=N,ct:=N,bk:=D.nx} h f):=by
 refine⟨λi m σ H=>m=xs.length-i/\i<=xs.length/\b i σ H,⟨xs.length,by simp,QI _,h0⟩,?_⟩;rintro i m σ H ⟨rfl,k,p⟩;have q:=o i σ H k p;by_cases d:i<xs.length
 . refine .inr ⟨⟨xs,xs[i],q,by simp[d]⟩,b (i+1),λj c n=>⟨xs.length - (i+1),by omega,rfl,d,n⟩,λx c y=>?_⟩;obtain⟨e,y⟩:=y;subst e;exact l i x σ _ (y xs q) p
 . have e:i=xs.length:=by omega
   subst e;exact .inl ⟨⟨xs,q,Qd _⟩,r σ H p⟩
def mQ {d:Int} {n:Nat} {g:TG} (a:Nat->St->Hp->Prop) (h0:a 0 σ H)
  (k:∀ i σ H,i<n->a i σ H->g (.int (d+i)) σ H λh f=>tb {D with nx:=a (i+1),ct:=a (i+1),bk:=D.nx} h f) (o:∀ σ H,a n σ H->D.nx σ H):
  ∃ W:Nat->Nat->St->Hp->Prop,(∃ m,W 0 m σ H)/\∀ i m σ H,W i m σ H->
   ((Itr d n).stop i H/\D.nx σ H)\/((Itr d n).go i H/\∃ N:St->Hp->Prop,(∀ j b,N j b->∃ m',m'<m/\W (i+1) m' j b)/\∀ x b,(Itr d n).yld i H x b->g x σ b λh f=>tb {D with nx:=N,ct:=N,bk:=D.nx} h f):=by
 refine⟨λi m σ H=>m=n-i/\i<=n/\a i σ H,⟨n,by simp,QI _,h0⟩,?_⟩;rintro i m σ H ⟨rfl,q,p⟩;by_cases c:i<n
 . refine .inr ⟨c,a (i+1),λj b l=>⟨n - (i+1),by omega,rfl,c,l⟩,λx b y=>?_⟩;obtain⟨e,y⟩:=y;subst e y;exact k i σ _ c p
 . have e:i=n:=by omega
   subst e;exact .inl ⟨Qd _,o σ H p⟩
theorem ID {c:TT} (f:St->Hp->Prop) (μ:St->Hp->Nat) (h0:f σ H)
  (i:∀ σ H,f σ H->c σ H λb a=>if b=true then tb {D with nx:=λe d=>f e d/\μ e d<μ σ H,ct:=λe d=>f e d/\μ e d<μ σ H,bk:=D.nx} σ a else D.nx σ a)
  (g:∀ σ H Q h,(∀ b a,Q b a->h b a)->c σ H Q->c σ H h):t6 c tb D σ H:=by
 refine⟨λm σ H=>m=μ σ H/\f σ H,⟨_,rfl,h0⟩,?_⟩;rintro m σ H ⟨rfl,p⟩;refine g σ H _ _ (λb a q=>?_) (i σ H p)
 cases b with
 | true=>exact⟨_,λe d ⟨j,l⟩=>⟨_,l,rfl,j⟩,q⟩
 | false=>exact q
abbrev R2:=V->V->Hp->VK->Prop
def OpR(X:Cx)(f:Value->Value->Sem Value)(r:R2):Prop:=
 ∀(a:List (Addr × Obj)) (s:Shared) (σ:St) (H:Hp) (x y:V) (v u:Value) (Q:VK),Inv X a σ H s->RelV x v->RelV y u->r x y H Q->
  wpAny (model X.prog X.w) X.A (f v u) (EP X a σ Q) X.xe s
def UnR(X:Cx)(f:Value->Sem Value)(r:V->Hp->VK->Prop):Prop:=
 ∀(a:List (Addr × Obj)) (s:Shared) (σ:St) (H:Hp) (x:V) (v:Value) (Q:VK),Inv X a σ H s->RelV x v->r x H Q->
  wpAny (model X.prog X.w) X.A (f v) (EP X a σ Q) X.xe s
def CallR(X:Cx)(f:Value)(r:List V->Hp->VK->Prop):Prop:=
 ∀(c:List (Addr × Obj)) (s:Shared) (σ:St) (H:Hp) (b:List V) (a:List Value) (Q:VK),Inv X c σ H s->Vals b a->r b H Q->
  wpAny (model X.prog X.w) X.A (call f a) (EP X c σ Q) X.xe s
def tOp(r:R2)(b tb:TE):TE:=λσ H Q=>b σ H λx c=>tb σ c λy a=>r x y a Q
def tUn(r:V->Hp->VK->Prop)(a:TE):TE:=λσ H Q=>a σ H λx b=>r x b Q
def rI(C:Int->Int->Prop)(g:Int->Int->V):R2:=λx y H Q=>∃ i j,x=.int i/\y=.int j/\C i j/\Q (g i j) H
def rI0(g:Int->Int->V):R2:=λx y H Q=>∃ i j,x=.int i/\y=.int j/\Q (g i j) H
def rU(g:Int->V):V->Hp->VK->Prop:=λx H Q=>∃ i,x=.int i/\Q (g i) H
section
variable{X:Cx}{a b c:Expr}{ta tb tc:TE}{pos:Pos}
def binT (q:PE X a ta) (m:PE X b tb) {e:List (Addr × Obj)} {s:Shared} {σ:St} {H:Hp} {R:V->V->Hp->Prop} (I:Inv X e σ H s)
  (h:ta σ H λx g=>tb σ g λy c=>R x y c) {Q:Value->Shared->Prop} {f:Value->Value->Sem Value}
  (n:∀ v u d x y c,Inv X e σ c d->RelV x v->RelV y u->R x y c->wpAny (model X.prog X.w) X.A (f v u) Q X.xe d):
  wpAny (model X.prog X.w) X.A (eval a X.env) (λv t=>wpAny (model X.prog X.w) X.A (eval b X.env) (λu k=>wpAny (model X.prog X.w) X.A (f v u) Q X.xe k) X.xe t) X.xe s:=by
 refine thn (q e s σ H _ I h) λv p ⟨x,g,l,z,o⟩=>?_;refine thn (m e p σ g _ l o) λu d ⟨y,c,i,j,r⟩=>?_;exact n v u d x y c i z j r
def am{c:Operator}{r:R2}(m:OpR X (binaryOp c) r)(k:PE X a ta)(i:PE X b tb):PE X (.BinOp a c b pos) (tOp r ta tb):=by
 intro l s σ H Q I h;exact wpAny_BinOp (binT k i I h λv u g x y f d j e q=>m l g σ f x y v u Q d j e q)
def BZ{b:UnaryOp}{r:V->Hp->VK->Prop}(k:UnR X (unaryOp b) r)(i:PE X a ta):PE X (.UnaryOp b a pos) (tUn r ta):=by
 intro c s σ H Q I h;exact UnaryOp_ (thn (i c s σ H _ I h) λv e ⟨x,g,d,j,f⟩=>k c e σ g x v Q d j f)
def opI {f:Value->Value->Sem Value} {C:Int->Int->Prop} {g:Int->Int->Int}
  (a:∀(i j:Int) (t u:Tok) (s:Shared) (Q:Value->Shared->Prop) (E:Value->Shared->Prop),C i j->Q (.int (g i j) s.toks) {s with toks:=s.toks+1}->wpAny (model X.prog X.w) X.A (f (.int i t) (.int j u)) Q E s):
  OpR X f (rI C λi j=>.int (g i j)):=by
 intro k s σ H x y v u Q I d b h;obtain⟨i,j,rfl,rfl,c,q⟩:=h;obtain⟨t,rfl⟩:=d;obtain⟨e,rfl⟩:=b;exact a i j t e s _ _ c ⟨.int (g i j),H,I.tok _,⟨_,rfl⟩,q⟩
def Fz {f:Value->Value->Sem Value} {g:Int->Int->Int}
  (a:∀(i j:Int) (t u:Tok) (s:Shared) (Q:Value->Shared->Prop) (E:Value->Shared->Prop),Q (.int (g i j) s.toks) {s with toks:=s.toks+1}->wpAny (model X.prog X.w) X.A (f (.int i t) (.int j u)) Q E s):
  OpR X f (rI0 λi j=>.int (g i j)):=by
 intro e s σ H x y v u Q I c b h;obtain⟨i,j,rfl,rfl,q⟩:=h;obtain⟨t,rfl⟩:=c;obtain⟨d,rfl⟩:=b;exact a i j t d s _ _ ⟨.int (g i j),H,I.tok _,⟨_,rfl⟩,q⟩
def FA {f:Value->Value->Sem Value} {g:Int->Int->Bool}
  (a:∀(i j:Int) (t u:Tok) (s:Shared) (Q:Value->Shared->Prop) (E:Value->Shared->Prop),Q (.bool (g i j)) s->wpAny (model X.prog X.w) X.A (f (.int i t) (.int j u)) Q E s):
  OpR X f (rI0 λi j=>.bl (g i j)):=by
 intro e s σ H x y v u Q I c b h;obtain⟨i,j,rfl,rfl,q⟩:=h;obtain⟨t,rfl⟩:=c;obtain⟨d,rfl⟩:=b;exact a i j t d s _ _ ⟨.bl (g i j),H,I,rfl,q⟩
def CDiv(i j:Int):Prop:=0<j/\j<1073741824
def CPow(i j:Int):Prop:=0<=j/\j<=1000000/\i.natAbs<2^64
def CMul(i j:Int):Prop:=(-(2^64)<i/\i<2^64)\/(-(2^64)<j/\j<2^64)
def CMul.ok{i j:Int}(h:CMul i j):IntMulOk i j:=by
 rcases h with ⟨h1,h2⟩ | ⟨h1,h2⟩
 . exact .of_left (intBits_le_64 h1 h2)
 . exact .of_right (intBits_le_64 h1 h2)
def FC(k:Nat):(0:Int)<=2^k:=by
 rw[two_pow_cast];exact Int.natCast_nonneg _
def KJ:OpR X (binaryOp .Add) (rI0 λi j=>.int (i+j)):=Fz λ_ _ _ _ _ _ _ q=>add_int q
def KK:OpR X (binaryOp .Sub) (rI0 λi j=>.int (i-j)):=Fz λ_ _ _ _ _ _ _ q=>sub_int q
def KL:OpR X (binaryOp .Mult) (rI CMul λi j=>.int (i*j)):=opI λ_ _ _ _ _ _ _ a q=>mul_int q a.ok
def JF:OpR X (binaryOp .FloorDiv) (rI CDiv λi j=>.int (i/j)):=opI λi j _ _ _ _ _ a q=>by
 have h1:(0:Int)<j:=a.1;have h2:j<1073741824:=a.2;exact floordiv_int #[0] (by rw[Sd i #[0]];exact q) (.inl (TC #[0]))
def KM:OpR X (binaryOp .Mod) (rI (λ_ j=>0<j) λi j=>.int (i%j)):=opI λi j _ _ _ _ _ a q=>by
 have h1:(0:Int)<j:=a;exact mod_int' #[0] (by rw[Tb i #[0]];exact q)
def KN:OpR X (binaryOp .Pow) (rI CPow λi j=>.int (i^j.toNat)):=opI λ_ _ _ _ _ _ _ a q=>pow_int_small a.1 a.2.1 a.2.2 q
def KO:OpR X (binaryOp .LShift) (rI CPow λi j=>.int (i*2^j.toNat)):=opI λ_ _ _ _ _ _ _ a q=>lshift_int_small a.1 a.2.1 a.2.2 q
def KP:OpR X (binaryOp .RShift) (rI (λ_ j=>0<=j) λi j=>.int (i/2^j.toNat)):=opI λi j _ _ _ _ _ a q=>
 rshift_int a (by rw[Sd i (FC _)];exact q)
def KQ:OpR X (binaryOp .BitAnd) (rI0 λi j=>.int (Builtin.bitAnd i j)):=Fz λ_ _ _ _ _ _ _ q=>and_int q
def LX:OpR X (binaryOp .BitOr) (rI0 λi j=>.int (Builtin.bitOr i j)):=Fz λ_ _ _ _ _ _ _ q=>or_int q
def unI {f:Value->Sem Value} {g:Int->Int}
  (a:∀(i:Int) (t:Tok) (s:Shared) (Q:Value->Shared->Prop) (E:Value->Shared->Prop),Q (.int (g i) s.toks) {s with toks:=s.toks+1}->wpAny (model X.prog X.w) X.A (f (.int i t)) Q E s):
  UnR X f (rU λi=>.int (g i)):=by
 intro c s σ H x v Q I b h;obtain⟨i,rfl,q⟩:=h;obtain⟨t,rfl⟩:=b;exact a i t s _ _ ⟨.int (g i),H,I.tok _,⟨_,rfl⟩,q⟩
def yg:UnR X (unaryOp .USub) (rU λi=>.int (-i)):=unI λ_ _ _ _ _ q=>neg_int q
end
def scal:V->V->Bool
 | .non,.non=>true | .non,.int _=>true | .int _,.non=>true | .non,.bl _=>true | .bl _,.non=>true | .non,.str _=>true | .str _,.non=>true
 | .int _,.int _=>true | .bl _,.bl _=>true | .str _,.str _=>true | .byt _,.byt _=>true
 | .int _,.str _=>true | .str _,.int _=>true | .bl _,.str _=>true | .str _,.bl _=>true
 | _,_=>false
def rEq:R2:=λx y H Q=>scal x y=true/\Q (.bl (decide (x=y))) H
def rNe:R2:=λx y H Q=>scal x y=true/\Q (.bl (!decide (x=y))) H
def ER{i j:Int}:decide (V.int i=V.int j)=(i==j):=by
 rw[Qx];simp
def GQ{i j:Bool}:decide (V.bl i=V.bl j)=(i==j):=by
 rw[Qx];simp
def ES{i j:Str}:decide (V.str i=V.str j)=(i==j):=by
 rw[Qx];simp
def ET{i j:Array UInt8}:decide (V.byt i=V.byt j)=(i.toList==j.toList):=by
 rw[Qx];cases i;cases j;simp
section
variable{X:Cx}{a b c:Expr}{ta tb tc:TE}{pos:Pos}
def bg{b:List (Addr × Obj)}{σ:St}{H:Hp}{s:Shared}{Q:VK}{k a:Bool}(I:Inv X b σ H s)(q:Q (.bl k) H)(e:k=a):EP X b σ Q (.bool a) s:=by
 subst e;exact⟨.bl k,H,I,rfl,q⟩
theorem FD:OpR X (compareOp .Eq) rEq:=by
 intro e s σ H x y v u Q I d a h;obtain⟨c,q⟩:=h
 cases x with
 | non=>
  cases d
  cases y with
  | non=>cases a;exact PySem.EqNone.eq_none_none (bg I q (by simp))
  | bl j=>cases a;exact PySem.EqNone.eq_none_bool (bg I q (by simp))
  | int j=>obtain⟨b,rfl⟩:=a;exact PySem.EqNone.eq_none_int (bg I q (by simp))
  | str j=>obtain⟨b,rfl⟩:=a;exact PySem.EqNone.eq_none_str (bg I q (by simp))
  | _=>exact absurd (show false=true from c) P7
 | bl i=>
  cases d
  cases y with
  | non=>cases a;exact PySem.EqNone.eq_bool_none (bg I q (by simp))
  | bl j=>cases a;exact eq_bool (bg I q GQ)
  | str j=>obtain⟨b,rfl⟩:=a;exact PySem.EqMixed.eq_bool_str (bg I q (by simp))
  | _=>exact absurd (show false=true from c) P7
 | int i=>
  obtain⟨t,rfl⟩:=d
  cases y with
  | non=>cases a;exact PySem.EqNone.eq_int_none (bg I q (by simp))
  | int j=>obtain⟨b,rfl⟩:=a;exact eq_int (bg I q ER)
  | str j=>obtain⟨b,rfl⟩:=a;exact PySem.EqMixed.eq_int_str (bg I q (by simp))
  | _=>exact absurd (show false=true from c) P7
 | str i=>
  obtain⟨t,rfl⟩:=d
  cases y with
  | non=>cases a;exact PySem.EqNone.eq_str_none (bg I q (by simp))
  | bl j=>cases a;exact PySem.EqMixed.eq_str_bool (bg I q (by simp))
  | int j=>obtain⟨b,rfl⟩:=a;exact PySem.EqMixed.eq_str_int (bg I q (by simp))
  | str j=>obtain⟨b,rfl⟩:=a;exact eq_str (bg I q ES)
  | _=>exact absurd (show false=true from c) P7
 | byt i=>
  obtain⟨t,rfl⟩:=d
  cases y with
  | byt j=>obtain⟨b,rfl⟩:=a;exact PySem.W.eq_bytes (bg I q ET)
  | _=>exact absurd (show false=true from c) P7
 | _=>cases y <;> exact absurd (show false=true from c) P7
theorem FE:OpR X (compareOp .NotEq) rNe:=by
 intro e s σ H x y v u Q I d a h;obtain⟨c,q⟩:=h
 cases x with
 | non=>
  cases d
  cases y with
  | non=>cases a;exact PySem.EqNone.ne_none_none (bg I q (by simp))
  | bl j=>cases a;exact PySem.EqNone.ne_none_bool (bg I q (by simp))
  | int j=>obtain⟨b,rfl⟩:=a;exact PySem.EqNone.ne_none_int (bg I q (by simp))
  | str j=>obtain⟨b,rfl⟩:=a;exact PySem.EqNone.ne_none_str (bg I q (by simp))
  | _=>exact absurd (show false=true from c) P7
 | bl i=>
  cases d
  cases y with
  | non=>cases a;exact PySem.EqNone.ne_bool_none (bg I q (by simp))
  | bl j=>cases a;exact ne_bool (bg I q (congrArg not GQ))
  | str j=>obtain⟨b,rfl⟩:=a;exact PySem.EqMixed.ne_bool_str (bg I q (by simp))
  | _=>exact absurd (show false=true from c) P7
 | int i=>
  obtain⟨t,rfl⟩:=d
  cases y with
  | non=>cases a;exact PySem.EqNone.ne_int_none (bg I q (by simp))
  | int j=>obtain⟨b,rfl⟩:=a;exact ne_int (bg I q (congrArg not ER))
  | str j=>obtain⟨b,rfl⟩:=a;exact PySem.EqMixed.ne_int_str (bg I q (by simp))
  | _=>exact absurd (show false=true from c) P7
 | str i=>
  obtain⟨t,rfl⟩:=d
  cases y with
  | non=>cases a;exact PySem.EqNone.ne_str_none (bg I q (by simp))
  | bl j=>cases a;exact PySem.EqMixed.ne_str_bool (bg I q (by simp))
  | int j=>obtain⟨b,rfl⟩:=a;exact PySem.EqMixed.ne_str_int (bg I q (by simp))
  | str j=>obtain⟨b,rfl⟩:=a;exact ne_str (bg I q (congrArg not ES))
  | _=>exact absurd (show false=true from c) P7
 | byt i=>
  obtain⟨t,rfl⟩:=d
  cases y with
  | byt j=>obtain⟨b,rfl⟩:=a;exact PySem.W.ne_bytes (bg I q (congrArg not ET))
  | _=>exact absurd (show false=true from c) P7
 | _=>cases y <;> exact absurd (show false=true from c) P7
def LY:OpR X (compareOp .Lt) (rI0 λi j=>.bl (decide (i<j))):=FA λ_ _ _ _ _ _ _ q=>lt_int q
def LZ:OpR X (compareOp .LtE) (rI0 λi j=>.bl (decide (i<=j))):=FA λ_ _ _ _ _ _ _ q=>le_int q
def L0:OpR X (compareOp .Gt) (rI0 λi j=>.bl (decide (j<i))):=FA λ_ _ _ _ _ _ _ q=>gt_int q
def L3:OpR X (compareOp .GtE) (rI0 λi j=>.bl (decide (j<=i))):=FA λ_ _ _ _ _ _ _ q=>ge_int q
def GR:OpR X (compareOp .In) (λx y H Q=>∃ i j,x=.str i/\y=.str j/\Q (.bl (!(Builtin.Str.occurrences j i 0 j.length 1).isEmpty)) H):=by
 intro c s σ H x y v u Q I b a h;obtain⟨i,j,rfl,rfl,q⟩:=h;obtain⟨t,rfl⟩:=b;obtain⟨d,rfl⟩:=a;exact in_str (bg I q rfl)
def qO:OpR X (compareOp .Is) (λx y H Q=>y=.non/\Q (.bl (decide (x=.non))) H):=by
 intro c s σ H x y v u Q I a b h;obtain⟨rfl,q⟩:=h;cases b;refine is_none_gen (bg I q ?_)
 cases x <;> first
  | (cases a;rfl)
  | (obtain⟨t,rfl⟩:=a;rfl)
def vI:OpR X (compareOp .IsNot) (λx y H Q=>y=.non/\Q (.bl (!decide (x=.non))) H):=by
 intro c s σ H x y v u Q I a b h;obtain⟨rfl,q⟩:=h;cases b;refine isnot_none_gen (bg I q ?_)
 cases x <;> first
  | (cases a;rfl)
  | (obtain⟨t,rfl⟩:=a;rfl)
def aj(b:Expr){a:CmpOp}(h:a≠.In:=by decide)(h2:a≠.NotIn:=by decide):behindInMarks a b=false:=by
 have e1:(a==CmpOp.In)=false:=by cases a <;> first | rfl | exact absurd rfl h
 have e2:(a==CmpOp.NotIn)=false:=by cases a <;> first | rfl | exact absurd rfl h2
 cases b <;> simp[behindInMarks,e1,e2]
def aB{c:CmpOp}{r:R2}(n:OpR X (compareOp c) r)(k:PE X a ta)(i:PE X b tb)(m:behindInMarks c b=false):PE X (.Compare a [c] [b] pos) (tOp r ta tb):=by
 intro l s σ H Q I h;exact wpAny_Compare1 (binT k i I h λv u g x y f d j e q=>n l g σ f x y v u Q d j e q) m
def tTest(t:TE):TT:=λσ H Q=>t σ H λx a=>∃ k,x=.bl k/\Q k a
def ak{f:CmpOp}{r:R2}(A:OpR X (compareOp f) r)(G:PE X a ta)(m:PE X b tb)(p:behindInMarks f b=false):PT X (.Compare a [f] [b] pos) (tTest (tOp r ta tb)):=by
 intro d s σ H Q I h
 refine wpAny_isTrue_Compare1 (thn (G d s σ H _ I h) λv E ⟨x,n,j,o,D⟩=>thn (m d E σ n _ j D) λu C ⟨y,B,g,i,w⟩=>
  thn (A d C σ B x y v u _ g o i w) λc J ⟨z,F,t,q,k,e,l⟩=>?_) p
 subst e;cases q;exact Ri ⟨F,t,l⟩
def mR(r f:R2)(ta tb tc:TE):TE:=λσ H Q=>ta σ H λx d=>tb σ d λy c=>r x y c λz a=>∃ k,z=.bl k/\
 (if k=true then tc σ a λe b=>f y e b Q else Q (.bl false) a)
theorem B5 {j f:CmpOp} {r n:R2} (O:OpR X (compareOp j) r) (i:OpR X (compareOp f) n) (W:PE X a ta) (D:PE X b tb) (B:PE X c tc)
  (J:lastMarks [j,f] [b,c]=false:=by with_unfolding_all rfl):PE X (.Compare a [j,f] [b,c] pos) (mR r n ta tb tc):=by
 intro g s σ H Q I h
 refine Compare_chain (thn (W g s σ H _ I h) λv T ⟨x,E,w,F,S⟩=>chain_link (thn (D g T σ E _ w S) λu R ⟨y,U,q,l,N⟩=>
  thn (O g R σ U x y v u _ q F l N) λd P ⟨z,p,o,M,k,e,m⟩=>?_)) J
 subst e;cases M;refine Ri ?_
 cases k with
 | false=>exact ite_ff ⟨.bl false,p,o,rfl,m⟩
 | true=>exact ite_tt (chain_last (thn (B g P σ p _ o m) λG t ⟨Y,L,A,C,K⟩=>i g t σ L y Y u G Q A l C K))
theorem B6 {j f:CmpOp} {r n:R2} (W:OpR X (compareOp j) r) (i:OpR X (compareOp f) n) (ha:PE X a ta) (K:PE X b tb) (E:PE X c tc)
  (O:lastMarks [j,f] [b,c]=false:=by with_unfolding_all rfl):PT X (.Compare a [j,f] [b,c] pos) (tTest (mR r n ta tb tc)):=by
 intro g s σ H Q I h
 refine isTrue_chain (thn (ha g s σ H _ I h) λv s1 ⟨x,L,A,M,q1⟩=>test_link (thn (K g s1 σ L _ A q1) λu Z ⟨y,H2,q,l,U⟩=>
  thn (W g Z σ H2 x y v u _ q M l U) λd Y ⟨z,p,o,T,k,e,m⟩=>?_)) O
 subst e;cases T;refine Ri ?_
 cases k with
 | false=>
  obtain⟨k',B,R⟩:=m;cases B;exact ite_ff ⟨p,o,R⟩
 | true=>
  refine ite_tt (test_last (thn (E g Y σ p _ o m) λN t ⟨z',S,C,J,P⟩=>thn (i g t σ S y z' u N _ C l J P) λd' s5 ⟨z2,w,G,F,k2,e2,D⟩=>?_));subst e2;cases F;exact Ri ⟨w,G,D⟩
def ua:(sizeLine:Nat)<2^63:=by rw[To];decide
def FF:OpR X (binaryOp .Add) (λx y H Q=>∃ i j,x=.str i/\y=.str j/\i.length+j.length<=sizeLine/\Q (.str (i++j)) H):=by
 intro f s σ H x y v u Q I c a h;obtain⟨i,j,rfl,rfl,b,q⟩:=h;obtain⟨t,rfl⟩:=c;obtain⟨d,rfl⟩:=a;exact add_str (λd e=>⟨.str (i++j),H,I.tok _,⟨_,rfl⟩,q⟩) b
theorem eP{x:V}{us:List Value}(r:Vals [x] us):∃ u,us=[u]/\RelV x u:=by
 cases r with
 | cons b a=>cases a;exact⟨_,rfl,b⟩
theorem vJ{x y:V}{us:List Value}(r:Vals [x,y] us):∃ u a,us=[u,a]/\RelV x u/\RelV y a:=by
 cases r with
 | cons e b=>
  cases b with
  | cons d c=>cases c;exact⟨_,_,rfl,e,d⟩
def GS(b:X.calm=true):CallR X (.builtin "max") (λxs H Q=>∃ i j,xs=[.int i,.int j]/\Q (.int (if j>i then j else i)) H):=by
 intro d s σ H xs f Q I r h;obtain⟨i,j,rfl,q⟩:=h;obtain⟨u,g,rfl,⟨t,rfl⟩,⟨l,rfl⟩⟩:=vJ r;refine max_two_ints (I.ok.hd b) λe c k=>⟨_,H,I.kept k,?_,q⟩;by_cases a:j>i
 . rw[Qt a,Qt a];exact⟨_,rfl⟩
 . rw[Qp a,Qp a];exact⟨_,rfl⟩
def GT(b:X.calm=true):CallR X (.builtin "min") (λxs H Q=>∃ i j,xs=[.int i,.int j]/\Q (.int (if j<i then j else i)) H):=by
 intro d s σ H xs f Q I r h;obtain⟨i,j,rfl,q⟩:=h;obtain⟨u,g,rfl,⟨t,rfl⟩,⟨l,rfl⟩⟩:=vJ r;refine min_two_ints (I.ok.hd b) λe c k=>⟨_,H,I.kept k,?_,q⟩;by_cases a:j<i
 . rw[Qt a,Qt a];exact⟨_,rfl⟩
 . rw[Qp a,Qp a];exact⟨_,rfl⟩
def AL:CallR X (.type "int") (λxs H Q=>(∃ i,xs=[.int i]/\Q (.int i) H)\/∃ k,xs=[.bl k]/\Q (.int (if k then 1 else 0)) H):=by
 intro c s σ H xs b Q I r h;rcases h with ⟨i,rfl,q⟩ | ⟨k,rfl,q⟩
 . obtain⟨u,rfl,t,rfl⟩:=eP r;exact call_int_int ⟨.int i,H,I,⟨_,rfl⟩,q⟩
 . obtain⟨u,rfl,a⟩:=eP r;cases a;exact call_int_bool ⟨.int (if k then 1 else 0),H,I.tok _,⟨_,rfl⟩,q⟩
def Ei:CallR X (.builtin "divmod") (λxs H Q=>∃ i j,xs=[.int i,.int j]/\CDiv i j/\∀ p,H p=none->Q (.ref p) (upd H p (.tup [.int (i/j),.int (i%j)]))):=by
 intro f s σ H xs c Q I r h;obtain⟨i,j,rfl,⟨h1,h2⟩,q⟩:=h;obtain⟨u,d,rfl,⟨t,rfl⟩,⟨g,rfl⟩⟩:=vJ r;refine divmod_int #[0] ?_ (.inl (TC #[0]));rw[Sd i #[0],Tb i #[0]];have a:H s.heap.objs.size=none:=I.hok.fresh (Qd _);refine⟨.ref s.heap.objs.size,_,?_,rfl,q _ a⟩;refine I.laid (λb o e=>Qb _ e) (Qd _) ⟨by simp only[QC,TW];rw[To];decide,[.int (i/j) s.toks,.int (i%j) (s.toks+1)],.cons ⟨_,rfl⟩ (.cons ⟨_,rfl⟩ .nil),?_⟩;exact⟨_,QG s.heap rfl,rfl,0,rfl⟩
end
structure ObjM(h:Heap)(x dx C:Addr)(mA:Str->Option Value):Prop where
 obj:h.get? x=some (PySem.W.instObj C dx)
 ns:h.Ns1 dx mA
 ne:dx≠x
variable{mA:Str->Option Value}
def GU{h:Heap}{dx:Addr}(n:h.Ns1 dx mA):∃ d,h.get? dx=some d/\∀ name,PySem.W.lookIn name d=some (mA name):=by
 obtain⟨o,c,m,l,k,i,_,f⟩:=n;refine⟨o,l,λname=>?_⟩;have e:=f name;unfold nsFind findBy at e;rw[← Array.find?_toList]at e;unfold PySem.W.lookIn;rw[k];dsimp only
 split
 . rename_i y q
   rw[q]at e;exact congrArg some e
 . rename_i q
   rw[q]at e
   have a:c.toList.any (·.refKey)=false:=by
    rw[List.any_eq_false];intro y g;obtain⟨z,t,b⟩:=i y (Array.mem_toList_iff.mp g);simp[DictEntry.refKey,b]
   have j:¬ c.toList.any (·.refKey)=true:=by rw[a];exact P7
   rw[Qp j];exact congrArg some e
variable{C:Addr}
def ObjM.look{h:Heap}{x dx:Addr}(I:ObjM h x dx C mA):∃ a,PySem.W.InstAt h x (PySem.W.instObj C dx) C (some a)/\∀ name,PySem.W.lookIn name a=some (mA name):=
 let ⟨a,c,b⟩:=GU I.ns
 ⟨a,⟨I.obj,rfl,rfl,c⟩,b⟩
section
variable{prog:Program}{w:World}{A:Around}{E:Value->Shared->Prop}{s:Shared}{K:Frag}{x dx C f:Addr}{mA:Str->Option Value}{name:Str}{v:Value}
def JG {a:Bool} {Q:Value->Shared->Prop} (X:K.In s.heap) (I:ObjM s.heap x dx C mA) (c:PySem.W.plainGet K C name=true) (f:PySem.W.hasDictIn K C=true)
  (g:findIn K (.ref C) name=some none) (e:mA name=some v) (b:PySem.W.handedIn v=true) (h:Q v {s with toks:=s.toks+1}):
  wpAny (model prog w) A (getAttr (.ref x) name a) Q E s:=by
 obtain⟨i,J,d⟩:=I.look;exact PySem.W.get_value X J (S0 c).1 (PySem.W.findObj_own f g rfl (by rw[d,e])) b h
def IE {pl:Sem Bool} {Q:Value × List Value->Shared->Prop} (X:K.In s.heap) (I:ObjM s.heap x dx C mA) (a:PySem.W.plainGet K C name=true)
  (b:findIn K (.ref C) name=some ↑f) (e:isFn K (.ref f)=true) (d:mA name=none) (h:Q (.ref f,[.ref x]) s):
  wpAny (model prog w) A (getMethod (.ref x) name pl) Q E s:=by
 obtain⟨g,J,c⟩:=I.look;exact PySem.W.method_fn X J (S0 a).1 (S0 a).2 b (RV.mp e) (by show(PySem.W.lookIn name g).map (·.isSome)=some false;rw[c,d];rfl) h
def JH {ns:List Str} {Q:Unit->Shared->Prop} (X:K.In s.heap) (I:ObjM s.heap x dx C mA)
  (n:findIn K (.ref C) "__setattr__"=some (some (.builtin "object.__setattr__"))) (m:PySem.W.plainOver K C=true) (j:PySem.W.takerIn K C name=some none) (p:PySem.W.hasDictIn K C=true)
  (o:PySem.Within mA ns) (hsz:ns.length<=sizeLine)
  (h:∀ h',ObjM h' x dx C (λy=>if y=name then some v else mA y)->Heap.SameBut dx s.heap h'->Q () {s with heap:=h',toks:=s.toks+2}):
  wpAny (model prog w) A (setAttr (.ref x) name v) Q E s:=by
 obtain⟨u,J,D⟩:=I.look;refine PySem.W.set_plain X J n (PySem.W.osa_open (s:={s with toks:=s.toks+1}) (r:=none) X J m j λb=>?_);obtain⟨z,k,i⟩:=PySem.W.any_some p;have l:s.heap.get? x=some ⟨.ref C,some dx,.plain,#[]⟩:=I.obj;refine Qq (QN (Qq (Qq (Tc l (Qq (PySem.W.Looks.here (s:={s with toks:=s.toks+1}) (PySem.W.looks_clsIn X k) ?_))))));rw[i];refine QN (a:=some dx) (Qq (QN (Qq ?_)));refine wpAny_nsSet1 (s:={s with toks:=s.toks+1}) I.ns λh' c d=>?_;obtain⟨B,q,t,g,f,e⟩:=c.count (PySem.Within.cons name v o);refine Qq (wpAny_lookBehind g (by rw[f];exact pastItsLine_dict (Qa e (by rw[QC];omega))) ?_);exact QN (h _ ⟨(d.2 _ (S3 I.ne)).trans I.obj,c,I.ne⟩ d)
def IF {R:Result->Shared->Prop} {vs:List Value} {b:List (Str × Value)} (X:K.In s.heap) (i:PySem.W.makesIn K C=true)
  (c:findIn K (.ref C) "__init__"=some ↑f) (e:PySem.W.typeIn K (.ref f)=some (.type "function"))
  (h:codeAny (model prog w) (A.under (.builtin "type.__call__" ⟨.ref C::vs,b⟩)) (.call (.ref f) ⟨.ref (s.heap.objs.size+1)::vs,b⟩) (PySem.W.InitBack (s.heap.objs.size+1) R)
   {s with heap:=(s.heap.push PySem.W.emptyDict).push (PySem.W.instObj C s.heap.objs.size)}):
  codeAny (model prog w) A (.call (.ref C) ⟨vs,b⟩) R s:=by
 obtain⟨j,g,d,t,k⟩:=s;exact PySem.W.make_core (PySem.W.makes_of X i) (Q7 X c) (λa=>PySem.W.bind_fn X a e) (.inl rfl) h
end
def putF(f:Str)(v:V):List (Str × V)->List (Str × V)
 | []=>[(f,v)]
 | (g,x)::r=>if g=f then(g,v)::r else(g,x)::putF f v r
theorem ww(f g:Str)(v:V):∀ c:List (Str × V),(putF f v c).lookup g=if g=f then some v else c.lookup g
 | []=>by
  show List.lookup g [(f,v)]=_;by_cases h:g=f
  . have a:(g==f)=true:=RV.mpr h;simp only[List.lookup,a,Qt h]
  . have a:(g==f)=false:=Si.mpr h;simp only[List.lookup,a,Qp h]
 | (k,x)::r=>by
  have d:=ww f g v r;rw[show putF f v ((k,x)::r)=(if k=f then(k,v)::r else(k,x)::putF f v r) from rfl];by_cases b:k=f
  . rw[Qt b];by_cases h:g=k
    . have a:(g==k)=true:=RV.mpr h;simp only[List.lookup,a,Qt (h.trans b)]
    . have a:(g==k)=false:=Si.mpr h;simp only[List.lookup,a,Qp (λe:g=f=>h (e.trans b.symm))]
  . rw[Qp b];by_cases h:g=k
    . have a:(g==k)=true:=RV.mpr h;simp only[List.lookup,a,Qp (λe:g=f=>b (h.symm.trans e))]
    . have a:(g==k)=false:=Si.mpr h;simp only[List.lookup,a];exact d
theorem ub(f:Str)(v:V):∀ b:List (Str × V),f∈(putF f v b).map (·.1)/\∀ g,g∈b.map (·.1)->g∈(putF f v b).map (·.1)
 | []=>⟨by simp[putF],λg h=>by simp at h⟩
 | (k,x)::r=>by
  obtain⟨d,c⟩:=ub f v r;rw[show putF f v ((k,x)::r)=(if k=f then(k,v)::r else(k,x)::putF f v r) from rfl];by_cases a:k=f
  . rw[Qt a];subst a;exact⟨by simp,λg h=>by simpa using h⟩
  . rw[Qp a];refine⟨?_,λg h=>?_⟩
    . rw[QJ];exact Qg _ d
    . rw[QJ]at h ⊢;rcases Qs.mp h with e | e
      . exact Qs.mpr (.inl e)
      . exact Qg _ (c g e)
theorem wx(f:Str)(v:V):∀ b:List (Str × V),(putF f v b).length<=b.length+1
 | []=>by simp[putF]
 | (k,x)::r=>by
  have c:=wx f v r;rw[show putF f v ((k,x)::r)=(if k=f then(k,v)::r else(k,x)::putF f v r) from rfl];by_cases a:k=f
  . rw[Qt a,QC,QC];omega
  . rw[Qp a,QC,QC];omega
variable{o:Option Value}
theorem RelO.some_of{v:V}(r:RelO (some v) o):∃ u,o=some u/\RelV v u:=by
 cases o with
 | none=>exact(show False from r).elim
 | some u=>exact⟨u,rfl,r⟩
abbrev Ue:=@RelO.some_of
theorem RelO.none_of(r:RelO none o):o=none:=by
 cases o with
 | none=>rfl
 | some u=>exact(show False from r).elim
theorem GV{v:V}{u:Value}(r:RelV v u):PySem.W.handedIn u=true:=by
 cases v with
 | non=>cases (show u=Value.none from r);rfl
 | bl b=>cases (show u=Value.bool b from r);rfl
 | int i=>obtain⟨t,e⟩:=(show ∃ t,u=Value.int i t from r);cases e;rfl
 | str x=>obtain⟨t,e⟩:=(show ∃ t,u=Value.str x t from r);cases e;rfl
 | byt b=>obtain⟨t,e⟩:=(show ∃ t,u=Value.bytes b t from r);cases e;rfl
 | flt b=>obtain⟨t,e⟩:=(show ∃ t,u=Value.float b t from r);cases e;rfl
 | ref a=>cases (show u=Value.ref a from r);rfl
 | ty n=>cases (show u=Value.type n from r);rfl
section
variable{P:Program}{w:World}{H H':Hp}{h h':Heap}{a C dx:Addr}{fs fs':List (Str × V)}
def vK(b:HOk P w H h)(e:H a=some (.ins C dx fs)):∃ mA,ObjM h a dx C mA/\(∀ f,RelO (fs.lookup f) (mA f))/\PySem.Within mA (fs.map (·.1))/\fs.length<=1000/\H dx=some (.own a):=by
 obtain⟨d,z,g,c,mA,n,r,q⟩:=(show ObjOk P w H h a (.ins C dx fs) from b a _ e);exact⟨mA,⟨c,n,g⟩,r,q,z,d⟩
end
structure Cls(K:Frag)(C:Addr):Prop where
 pg:PySem.W.plainGet K C Str.empty=true
 hd:PySem.W.hasDictIn K C=true
 po:PySem.W.plainOver K C=true
 sa:findIn K (.ref C) "__setattr__"=some (some (.builtin "object.__setattr__"))
def Cls.get{K:Frag}(c:Cls K C)(f:Str):PySem.W.plainGet K C f=true:=c.pg
def NoAttr(K:Frag)(C:Addr)(f:Str):Prop:=findIn K (.ref C) f=some none
def NoAttr.taker{K:Frag}{f:Str}(n:NoAttr K C f):PySem.W.takerIn K C f=some none:=by
 unfold PySem.W.takerIn;rw[show findIn K (.ref C) f=some none from n];rfl
structure Meth(K:Frag)(C:Addr)(m:Str)(f:Addr):Prop where
 at_:findIn K (.ref C) m=some ↑f
 fn:isFn K (.ref f)=true
 kp:keepIn K (.ref f)=true
section
variable{X:Cx}{PN:List (Addr × Obj)}{σ:St}{H:Hp}{s:Shared}{a C dx:Addr}{fs:List (Str × V)}{f:Str}{v:V}{A:Around}{E:Value->Shared->Prop}
def FG {b:Bool} {Q:Value->Shared->Prop} (I:Inv X PN σ H s) (e:H a=some (.ins C dx fs)) (c:Cls X.K C) (n:NoAttr X.K C f) (l:fs.lookup f=some v)
  (h:∀ u s',Inv X PN σ H s'->RelV v u->Q u s'):wpAny (model X.prog X.w) A (getAttr (.ref a) f b) Q E s:=by
 obtain⟨mA,O,r,_,_,_⟩:=vK I.hok e;obtain⟨u,g,d⟩:=Ue (v:=v) (o:=mA f) (by rw[← l];exact r f);exact JG I.kIn O (c.get f) c.hd n g (GV d) (h u _ (I.tok _) d)
def yh {m:Str} {g:Addr} {pl:Sem Bool} {Q:Value × List Value->Shared->Prop} (I:Inv X PN σ H s) (e:H a=some (.ins C dx fs)) (c:Cls X.K C) (k:Meth X.K C m g) (l:fs.lookup m=none)
  (h:Q (.ref g,[.ref a]) s):wpAny (model X.prog X.w) A (getMethod (.ref a) m pl) Q E s:=by
 obtain⟨mA,O,r,_,_,_⟩:=vK I.hok e;have b:mA m=none:=RelO.none_of (by rw[← l];exact r m);exact IE I.kIn O (c.get m) k.at_ k.fn b h
def FH {y:V} {u:Value} {Q:Unit->Shared->Prop} (I:Inv X PN σ H s) (e:H a=some (.ins C dx fs)) (c:Cls X.K C) (n:NoAttr X.K C f) (F:fs.length<1000) (k:RelV y u)
  (h:∀ s',Inv X PN σ (upd H a (.ins C dx (putF f y fs))) s'->Q () s'):wpAny (model X.prog X.w) A (setAttr (.ref a) f u) Q E s:=by
 obtain⟨mA,O,r,i,_,j⟩:=vK I.hok e;have v:(fs.map (·.1)).length<=sizeLine:=by rw[P0,To];omega
 refine JH I.kIn O c.sa c.po n.taker c.hd i v λB d m=>h _ ?_;have D:∃ o,B.get? dx=some o:=let ⟨o,_,_,t,_⟩:=d.ns;⟨o,t⟩;refine I.write (x:=a) (e:=dx) (by rw[e];exact True.intro) (.inr j) (λb q p z=>(m.2 b p).trans z) D ?_;refine⟨by rw[ap O.ne];exact j,?_,O.ne,d.obj,_,d.ns,λg=>?_,λg l=>?_⟩
 . have:=wx f y fs;omega
 . show RelO ((putF f y fs).lookup g) (if g=f then some u else mA g);rw[ww];by_cases q:g=f
   . rw[Qt q,Qt q];exact k
   . rw[Qp q,Qp q];exact r g
 . by_cases q:g=f
   . rw[q];exact(ub f y fs).1
   . refine(ub f y fs).2 g (i g λz=>l ?_);show(if g=f then some u else mA g)=none;rw[Qp q];exact z
def Inv.made(I:Inv X PN σ H s):Inv X PN σ (upd (upd H s.heap.objs.size (.own (s.heap.objs.size+1))) (s.heap.objs.size+1) (.ins C s.heap.objs.size []))
  {s with heap:=(s.heap.push PySem.W.emptyDict).push (PySem.W.instObj C s.heap.objs.size)}:=by
 have e1:(s.heap.push PySem.W.emptyDict).get? s.heap.objs.size=some PySem.W.emptyDict:=QG s.heap rfl
 have e2:((s.heap.push PySem.W.emptyDict).push (PySem.W.instObj C s.heap.objs.size)).get? (s.heap.objs.size+1)=some (PySem.W.instObj C s.heap.objs.size):=by
  have:=QG (s.heap.push PySem.W.emptyDict) (o:=PySem.W.instObj C s.heap.objs.size) rfl
  rwa [RY]at this
 have h:(s.heap.push PySem.W.emptyDict).Ns s.heap.objs.size (λ_=>none):=⟨PySem.W.emptyDict,#[],_,e1,rfl,(λe g=>absurd g (by simp)),λ_=>rfl⟩;have f:=I.laid (a:=s.heap.objs.size) (o:=.own (s.heap.objs.size+1)) (h':=s.heap.push PySem.W.emptyDict) (t':=s.toks) (λb u q=>Qb _ q) (Qd _) ⟨_,e1⟩;refine f.laid (a:=s.heap.objs.size+1) (o:=.ins C s.heap.objs.size []) (t':=s.toks) (λb u q=>Qb _ q) (Nat.le_of_eq (RY _ _)) ?_;have c:s.heap.objs.size≠s.heap.objs.size+1:=QH (SL _);refine⟨by rw[ap c,ai],QI _,c,e2,λ_=>none,(Heap.Ns1.of_empty h).at λo q=>Qb _ q,λ_=>True.intro,λy d=>absurd rfl d⟩
def EU {prog:Program} {w:World} {env:Env} {e:Expr} {f:Str} {pos:Pos} {s:Shared} {Q:Value->Shared->Prop} (b:attributeBase e f env (eval e env)=eval e env)
  (h:wpAny (model prog w) A (eval e env) (λo a=>wpAny (model prog w) A (getAttr o f true) Q E a) E s):wpAny (model prog w) A (eval (.Attribute e f pos) env) Q E s:=
 Attribute_any_ h (by rw[arm_eval_Attribute,b])
end
section
variable{X:Cx}{o e value:Expr}{f:Str}{pos pos' tpos:Pos}{ta tv:TE}
end
section
variable{X:Cx}{PN:List (Addr × Obj)}{σ:St}{H:Hp}{s:Shared}{A:Around}{E:Value->Shared->Prop}{Q:Value->Shared->Prop}{c:Value}{b:Bool}
inductive TyOf(K:Frag)(H:Hp):V->Value->Prop where
 | non:TyOf K H .non (.type "NoneType")
 | bl (x:Bool):TyOf K H (.bl x) (.type "bool")
 | int (i:Int):TyOf K H (.int i) (.type "int")
 | str (x:Str):TyOf K H (.str x) (.type "str")
 | flt (x:UInt64):TyOf K H (.flt x) (.type "float")
 | lst {a:Addr} {xs:List V} (e:H a=↥xs):TyOf K H (.ref a) (.type "list")
 | frz {a:Addr} {o:Obj} {xs:List V} (e:H a=some (.frz o (.lst xs))):TyOf K H (.ref a) (.type "list")
 | tup {a:Addr} {xs:List V} (e:H a=some (.tup xs)):TyOf K H (.ref a) (.type "tuple")
 | dK {a:Addr} {PR:List (Key × V)} (e:H a=some (.dK PR)):TyOf K H (.ref a) (.type "dict")
 | dT {a:Addr} {PR:List (List Key × V)} (e:H a=some (.dT PR)):TyOf K H (.ref a) (.type "dict")
 | ins {a C dx:Addr} {fs:List (Str × V)} (e:H a=some (.ins C dx fs)) (cl:Cls K C) (ha:findIn K (.ref C) "__class__"=some (some (.builtin "object.__class__")))
   (hn:PySem.W.specialIn K (.builtin "object.__class__") "__get__"=some (some (.builtin "getset_descriptor.__get__"))) (htk:PySem.W.takesIn K (.builtin "object.__class__")=some true)
   (hm:PySem.W.mroIn K C (.type "object")=some true):TyOf K H (.ref a) (.ref C)
theorem GW{x:V}{u t:Value}(I:Inv X PN σ H s)(f:RelV x u)(F:TyOf X.K H x t)(e:PySem.W.kitOne X.K t c=some b)(h:∀ m,Q (.bool b) {s with toks:=m}):
  wpAny (model X.prog X.w) A (call (.builtin "isinstance") [u,c]) Q E s:=by
 cases F with
 | non=>cases (show u=Value.none from f);exact Rb PySem.W.kitx_none I.kIn True.intro e (λz=>nomatch z) h
 | bl y=>cases (show u=Value.bool y from f);exact Rb PySem.W.kitx_bool I.kIn True.intro e (λz=>nomatch z) h
 | int i=>obtain⟨t,q⟩:=(show ∃ t,u=Value.int i t from f);cases q;exact Rb PySem.W.kitx_int I.kIn True.intro e (λz=>nomatch z) h
 | str y=>obtain⟨t,q⟩:=(show ∃ t,u=Value.str y t from f);cases q;exact Rb PySem.W.kitx_str I.kIn True.intro e (λz=>nomatch z) h
 | flt y=>obtain⟨t,q⟩:=(show ∃ t,u=Value.float y t from f);cases q;exact Rb PySem.W.kitx_float I.kIn True.intro e (λz=>nomatch z) h
 | @lst a g d=>
  cases (show u=Value.ref a from f);obtain⟨_,_,n,_,h1⟩:=(show ObjOk X.prog X.w H s.heap a (.lst g) from I.hok a _ d);exact Rb PySem.W.kitx_list I.kIn ⟨_,h1,rfl⟩ e (λz=>nomatch z) h
 | @frz a v g d=>
  cases (show u=Value.ref a from f);obtain⟨_,_,_,n,_,h1⟩:=(show ObjOk X.prog X.w H s.heap a (.frz v (.lst g)) from I.hok a _ d);exact Rb PySem.W.kitx_list I.kIn ⟨_,h1,rfl⟩ e (λz=>nomatch z) h
 | @tup a g d=>
  cases (show u=Value.ref a from f);obtain⟨_,_,_,p⟩:=(show ObjOk X.prog X.w H s.heap a (.tup g) from I.hok a _ d);obtain⟨o,h1,h2,_⟩:=p;exact Rb PySem.W.kitx_tuple I.kIn ⟨o,h1,h2⟩ e (λz=>nomatch z) h
 | @dK a j d=>
  cases (show u=Value.ref a from f);obtain⟨_,_,vs,_,p⟩:=(show ObjOk X.prog X.w H s.heap a (.dK j) from I.hok a _ d);obtain⟨o,r,D,h1,h2,_⟩:=p;exact Rb PySem.W.kitx_dict I.kIn ⟨o,h1,h2.1⟩ e (λz=>nomatch z) h
 | @dT a j d=>
  cases (show u=Value.ref a from f);obtain⟨_,_,g,_,o,r,D,h1,h2,_⟩:=(show ObjOk X.prog X.w H s.heap a (.dT j) from I.hok a _ d);exact Rb PySem.W.kitx_dict I.kIn ⟨o,h1,h2.1⟩ e (λz=>nomatch z) h
 | @ins a C N M d l G B k L=>
  cases (show u=Value.ref a from f);obtain⟨mA,O,_⟩:=vK I.hok d;obtain⟨P,J,_⟩:=O.look;exact Rb (PySem.W.kitx_own (l.get _) l.hd G B k L) I.kIn J e (λz=>nomatch z) h
end
structure Room(k:Nat)(A:Around):Prop where
 hd:A.handled=none
 dp:A.depth+3*k+5<recursionLimit
 un:A.units+16*k+200<cLine
variable{A:Around}
def Room.mono{j k:Nat}(r:Room k A)(h:j<=k):Room j A:=⟨r.hd,by have:=r.dp;omega,by have:=r.un;omega⟩
def Room.deeper{k:Nat}(r:Room (k+1) A)(env:Env):Room k (A.deeper env):=
 ⟨r.hd,by have:=r.dp;show A.depth+1+3*k+5<_;omega,by have:=r.un;show A.units+3+16*k+200<_;omega⟩
variable{us:List Value}{kw:List (Str × Value)}
def FI{C:Addr}:(A.under (.builtin "type.__call__" ⟨.ref C::us,kw⟩)).depth=A.depth+1:=by
 first | rfl | simp[Around.under,Code.weight,Code.isCreation,Code.isGuard,Code.isCaller,Code.frames,Code.isFrame,guardIds]
def FJ{C:Addr}:(A.under (.builtin "type.__call__" ⟨.ref C::us,kw⟩)).units=A.units+1:=by
 first | rfl | simp[Around.under,Code.cUnits,Code.frames,Code.isFrame]
def Room.make{k:Nat}(r:Room (k+1) A)(C:Addr)(us:List Value)(kw:List (Str × Value)):Room k (A.under (.builtin "type.__call__" ⟨.ref C::us,kw⟩)):=
 ⟨r.hd,by have:=r.dp;rw[FI];omega,by have:=r.un;rw[FJ];omega⟩
def Room.depth{k:Nat}(r:Room k A):A.depth<recursionLimit:=by have:=r.dp;omega
def Room.units{k:Nat}(r:Room k A):A.units+64<cLine:=by have:=r.un;omega
def tNil:TA:=λ_ H Q=>Q [] H
def tCons(a:TE)(e:TA):TA:=λσ H Q=>a σ H λx c=>e σ c λd b=>Q (x::d) b
section
variable{X:Cx}{e:Expr}{es:List Expr}{te:TE}{t:TA}{pos:Pos}
def ad:PA X [] tNil:=λ_ _ _ _ H Q I h=>Sv ⟨[],H,I,.nil,h⟩
def aa(m:PE X e te)(n:PA X es t)(d:starEach (e::es) X.env=(false,eval e X.env)::starEach es X.env:=by rfl):PA X (e::es) (tCons te t):=by
 intro pos a s σ H Q I h;rw[d];show wpAny _ _ (spliced ((false,eval e X.env)::backTo pos (starEach es X.env))) _ _ s;refine So (thn (m a s σ H _ I h) λu j ⟨x,k,g,p,i⟩=>?_);exact thn (n pos a j σ k _ g i) λus q ⟨l,f,b,c,o⟩=>⟨x::l,f,b,.cons p c,o⟩
def tTup(t:TA):TE:=λσ H Q=>t σ H λa b=>a.length<=sizeLine/\∀ p,b p=none->Q (.ref p) (upd b p (.tup a))
def tLst(t:TA):TE:=λσ H Q=>t σ H λa b=>a.length<=sizeLine/\∀ p,b p=none->Q (.ref p) (upd b p (.lst a))
def bJ{x1}(h:PA X es t):PE X (.Tuple es x1 pos) (tTup t):=by
 intro j s σ H Q I f;refine wpAny_Tuple_spliced (thn (h pos j s σ H _ I f) λus a ⟨i,d,c,r,z,q⟩=>⟨by rw[← r.length];exact z,?_⟩);have g:d a.heap.objs.size=none:=c.hok.fresh (Qd _);refine⟨.ref a.heap.objs.size,upd d a.heap.objs.size (.tup i),c.laid (t':=a.toks) (λb u e=>Qb _ e) (Qd _) ?_,rfl,q _ g⟩;exact⟨z,us,r,⟨_,QG _ rfl,rfl,_,rfl⟩⟩
def aC(h:PA X es t):PE X (.List es pos) (tLst t):=by
 intro j s σ H Q I f;refine wpAny_List_spliced (thn (h pos j s σ H _ I f) λus a ⟨i,d,c,r,z,q⟩=>⟨by rw[← r.length];exact z,?_⟩);have g:d a.heap.objs.size=none:=c.hok.fresh (Qd _);refine⟨.ref a.heap.objs.size,upd d a.heap.objs.size (.lst i),c.laid (t':=a.toks) (λb u e=>Qb _ e) (Qd _) ?_,rfl,q _ g⟩;exact⟨z,us,0,r,QG _ rfl⟩
end
abbrev Sp:=List V->Hp->VK->XK->Prop
abbrev CXT:=List Env->Hp->Shared->XK->Value->Shared->Prop
structure Env0(P:Program)(w:World)(K:Frag)(mg:Str->Option Value)(base:Heap)(A:Around)(outer:List Env)(s:Shared)(H:Hp):Prop where
 frames:A.frames=some outer
 mod:Mod K mg base
 bs:∀ b o,base.get? b=some o->s.heap.get? b=some o/\H b=none
 bsz:base.objs.size<=s.heap.objs.size
 funs:s.heap.FunFrames base outer
 frf:∀ b∈frs outer,H b=none
 hok:HOk P w H s.heap
 bare:AllBare s.gens
def CE(a:List Env)(P:Program)(w:World)(H:Hp)(s:Shared)(Q:VK)(u:Value)(s':Shared):Prop:=
 ∃ v b,s'.os=s.os/\AllBare s'.gens/\Un (frs a) [] H b s.heap s'.heap/\HOk P w b s'.heap/\RelV v u/\Q v b
def CR(CX:CXT)(a:List Env)(P:Program)(w:World)(H:Hp)(s:Shared)(Q:VK)(E:XK)(r:Result)(s':Shared):Prop:=
 match r with
 | .ok (.ret u)=>CE a P w H s Q u s'
 | .ok _=>False
 | .error e=>CX a H s E e s'
structure FnOk(P:Program)(w:World)(K:Frag)(mg:Str->Option Value)(base:Heap)(CX:CXT)(k:Nat)(f:Addr)(fd:FuncData)(ps:List Str)(sp:Sp):Prop where
 len:∀ vs H Q E,sp vs H Q E->vs.length=ps.length
 run:∀(A:Around) (outer:List Env) (s:Shared) (H:Hp) (args:Args) (us:List Value) (vs:List V) (Q:VK) (E:XK),Room k A->Env0 P w K mg base A outer s H->BindsTo s fd args (ps.zip us)->Vals vs us->sp vs H Q E->
  codeAny (model P w) A (.call (.ref f) args) (CR CX outer P w H s Q E) s
variable{P:Program}{w:World}{K:Frag}{mg:Str->Option Value}{base:Heap}{CX:CXT}{f:Addr}{fd:FuncData}{ps:List Str}
def FnOk.mono{j k:Nat}{sp:Sp}(F:FnOk P w K mg base CX j f fd ps sp)(h:j<=k):
  FnOk P w K mg base CX k f fd ps sp:=⟨F.len,λA a s H b us vs Q E c=>F.run A a s H b us vs Q E (c.mono h)⟩
def FnOk.imp {k:Nat} {sp c:Sp} (F:FnOk P w K mg base CX k f fd ps sp)
  (h:∀ vs H Q E,c vs H Q E->sp vs H Q E):FnOk P w K mg base CX k f fd ps c:=
 ⟨λvs H Q E q=>F.len vs H Q E (h _ _ _ _ q),λA a s H b us vs Q E j i e g d=>F.run A a s H b us vs Q E j i e g (h _ _ _ _ d)⟩
variable{outer:List Env}
def Env0.make{s:Shared}{H:Hp}(e:Env0 P w K mg base A outer s H)(C:Addr)(us:List Value)(kw:List (Str × Value)):
  Env0 P w K mg base (A.under (.builtin "type.__call__" ⟨.ref C::us,kw⟩)) outer s H:=⟨by first | exact e.frames | (simpa [Around.under,Code.envs,Code.isFrame,pushEnvs] using e.frames),e.mod,e.bs,e.bsz,e.funs,e.frf,e.hok,e.bare⟩
section
variable{X:Cx}{PN:List (Addr × Obj)}{σ:St}{H:Hp}{s s':Shared}
def Inv.env0(I:Inv X PN σ H s):Env0 X.prog X.w X.K X.mg X.base X.A X.stack s H:=
 ⟨I.ok.frames,I.ok.mod,I.bs,Qa I.ok.bsz I.sz,I.stack,I.stkFree,I.hok,I.bare⟩
def Inv.after{Q:VK}{u:Value}(I:Inv X PN σ H s)(h:CE X.stack X.prog X.w H s Q u s'):EP X PN σ Q u s':=by
 obtain⟨v,k,j,a,f,e,r,q⟩:=h;obtain⟨i,g,d,t,c⟩:=s';obtain rfl:c=s.os:=j;exact⟨v,k,I.call (h':=i) (g':=g) (d':=d) (t':=t) (ch:=[]) f e a (λb z=>absurd z (by simp)),r,q⟩
end
def tCall(sp:Sp)(a:List V)(E:XK)(t:TA):TE:=λσ H Q=>t σ H λvs b=>sp (vs++a) b Q E
def tMake(C:Addr)(sp:Sp)(b:List V)(E:XK)(t:TA):TE:=λσ H Q=>t σ H λvs c=>∀ x a,c x=none->c a=none->a≠x->
 sp (.ref x::(vs++b)) (upd (upd c a (.own x)) x (.ins C a [])) (λv d=>v=.non/\Q (.ref x) d) E
def Binds(K:Frag)(fd:FuncData)(ps:List Str)(a:List Value):Prop:=
 ∀(s:Shared) (us:List Value),K.In s.heap->(us++a).length=ps.length->BindsTo s fd ⟨us,[]⟩ (ps.zip (us++a))
def Binds.all(h:∀ us:List Value,us.length=ps.length->bindArgs fd ⟨us,[]⟩=pure (ps.zip us)):Binds K fd ps []:=λs us _ a=>by
 rw[TX]at a ⊢;exact .of_eq (h us a)
def uc(CX:CXT)(X:Cx)(E:XK):Prop:=∀(b:List (Addr × Obj)) (σ:St) (H:Hp) (s:Shared) (e:Value) (a:Shared),Inv X b σ H s->CX X.stack H s E e a->X.xe e a
section
variable{X:Cx}{CX:CXT}{k:Nat}{f C:Addr}{fd:FuncData}{ps:List Str}{sp:Sp}{dvs:List V}{ds:List Value}{E:XK}{x m:Str}{p pos apos:Pos}{e o:Expr}{es:List Expr}{ta:TE}{t:TA}
theorem B7 {b:List (Addr × Obj)} {σ:St} {H:Hp} {s:Shared} {Q:VK} {us:List Value} {vs:List V} (F:FnOk X.prog X.w X.K X.mg X.base CX k f fd ps sp) (m:Room k X.A) (g:Binds X.K fd ps ds) (j:Vals dvs ds) (n:uc CX X E)
  (I:Inv X b σ H s) (r:Vals vs us) (h:sp (vs++dvs) H Q E):wpAny (model X.prog X.w) X.A (call (.ref f) us) (EP X b σ Q) X.xe s:=by
 have c:Vals (vs++dvs) (us++ds):=r.append j;have i:(us++ds).length=ps.length:=by rw[← c.length];exact F.len _ _ _ _ h
 refine Td (S5 (F.run X.A X.stack s H ⟨us,[]⟩ (us++ds) (vs++dvs) Q E m I.env0 (g s us I.kIn i) c h) λr d a=>?_)
 cases r with
 | error e=>exact n b σ H s e d I a
 | ok l=>
  cases l with
  | ret u=>exact I.after a
  | next=>exact False.elim a
  | brk=>exact False.elim a
  | cont=>exact False.elim a
def JI (F:FnOk X.prog X.w X.K X.mg X.base CX k f fd ps sp) (o:Room k X.A) (g:Gl X x) (d:X.mg x=↑f) (m:keepIn X.K (.ref f)=true) (i:Binds X.K fd ps ds) (l:Vals dvs ds) (v:uc CX X E)
  (n:PA X (e::es) t) (b:(x==("__debug__":Str))=false:=by decide) (j:starEach (e::es) X.env=(false,eval e X.env)::starEach es X.env:=by rfl) (a:(backTo pos (starEach es X.env)).any (·.1)=false:=by rfl):
  PE X (.Call (.Name x p) (e::es) [] pos) (tCall sp dvs E t):=by
 intro u s σ H Q I h;refine Rm (lY I g d ?_ b);refine R7 (h₀:=X.base) I.ok.mod.kin m (thn (n pos u s σ H _ I h) λus y ⟨vs,z,c,r,q⟩=>⟨c.kIn,?_⟩) j a;exact B7 F o i l v c r q
structure Mk(K:Frag)(C f:Addr):Prop where
 makes:PySem.W.makesIn K C=true
 init:findIn K (.ref C) "__init__"=some ↑f
 fn:isFn K (.ref f)=true
 kp:keepIn K (.ref C)=true
theorem IG {c:List (Addr × Obj)} {σ:St} {H:Hp} {s:Shared} {Q:VK} {us:List Value} {vs:List V} (M:Mk X.K C f) (F:FnOk X.prog X.w X.K X.mg X.base CX k f fd ps sp) (z:Room (k+1) X.A) (n:Binds X.K fd ps ds) (q:Vals dvs ds)
  (D:uc CX X E) (I:Inv X c σ H s) (r:Vals vs us)
  (h:∀ x dx,H x=none->H dx=none->dx≠x->sp (.ref x::(vs++dvs)) (upd (upd H dx (.own x)) x (.ins C dx [])) (λv l=>v=.non/\Q (.ref x) l) E):
  wpAny (model X.prog X.w) X.A (call (.ref C) us) (EP X c σ Q) X.xe s:=by
 have g:=h (s.heap.objs.size+1) s.heap.objs.size (I.hok.fresh (R5 _)) (I.hok.fresh (Qd _)) (QH (SL _));have b:=Inv.made (C:=C) I;have d:Vals (V.ref (s.heap.objs.size+1)::(vs++dvs)) (Value.ref (s.heap.objs.size+1)::(us++ds)):=.cons rfl (r.append q)
 have o:(Value.ref (s.heap.objs.size+1)::us++ds).length=ps.length:=by
  have e:=d.length;rw[F.len _ _ _ _ g]at e;exact e.symm
 refine Td (IF (f:=f) I.kIn M.makes M.init (RV.mp M.fn) (S5 (F.run _ X.stack _ _ ⟨Value.ref (s.heap.objs.size+1)::us,[]⟩ (Value.ref (s.heap.objs.size+1)::(us++ds)) _ _ E (z.make C us [])
  (b.env0.make C us []) (n _ (Value.ref (s.heap.objs.size+1)::us) b.kIn o) d g) λr m a=>?_))
 cases r with
 | error e=>exact D c σ _ _ e m b a
 | ok t=>
  cases t with
  | ret u=>
   obtain⟨v,B,y,i,j,p⟩:=b.after a;subst j;exact⟨i,⟨V.ref (s.heap.objs.size+1),B,y,rfl,p⟩⟩
  | next=>exact False.elim a
  | brk=>exact False.elim a
  | cont=>exact False.elim a
def JJ (M:Mk X.K C f) (F:FnOk X.prog X.w X.K X.mg X.base CX k f fd ps sp) (n:Room (k+1) X.A) (g:Gl X x) (d:X.mg x=↑C) (i:Binds X.K fd ps ds) (l:Vals dvs ds) (u:uc CX X E)
  (m:PA X (e::es) t) (b:(x==("__debug__":Str))=false:=by decide) (j:starEach (e::es) X.env=(false,eval e X.env)::starEach es X.env:=by rfl) (a:(backTo pos (starEach es X.env)).any (·.1)=false:=by rfl):
  PE X (.Call (.Name x p) (e::es) [] pos) (tMake C sp dvs E t):=by
 intro o s σ H Q I h;refine Rm (lY I g d ?_ b);refine R7 (h₀:=X.base) I.ok.mod.kin M.kp (thn (m pos o s σ H _ I h) λus v ⟨vs,y,c,r,q⟩=>⟨c.kIn,?_⟩) j a;exact IG M F n i l u c r q
end
section
variable{X:Cx}{CX:CXT}{k:Nat}{f C:Addr}{fd:FuncData}{ps ks:List Str}{sp:Sp}{E:XK}{x m:Str}{p pos apos kpos:Pos}{e o:Expr}{es:List Expr}{kws:List Keyword}{te ta:TE}{t tk:TA}{nm:Option Str}
variable{g:List Value->List Value->List Value}{gV:List V->List V->List V}
end
structure ki(N P:List Str)(sc:Scope):Prop where
 kind:sc.kind=.function
 co:sc.isCoroutine=false
 gen:sc.isGenerator=false
 nd:N.Nodup
 pre:N.take P.length=P
 par:∀ x∈P,sc.names.lookup x=some .local\/sc.names.lookup x=some .cell
 nofree:∀ y∈sc.names,y.2≠.free
theorem AM{b:Str->Option NameKind}{x:Str}:∀{a:List (Str × Value)} {m:Str->Option Value},(∀ v,(x,v)∉a)->bindL b a m x=m x
 | [],_,_=>rfl
 | (n,v)::r,m,h=>by
  unfold bindL;rw[AM λw c=>h w (Qg _ c)]
  split
  . have:x≠n:=by rintro rfl;exact h v Qm
    simp[this]
  . rfl
theorem AN{b:Str->Option NameKind}{x:Str}:∀{a:List (Str × Value)} {m:Str->Option Value},(∀ v,(x,v)∉a)->bindC b a m x=m x
 | [],_,_=>rfl
 | (n,v)::r,m,h=>by
  unfold bindC;rw[AN λw c=>h w (Qg _ c)]
  split
  . rfl
  . have:x≠n:=by rintro rfl;exact h v Qm
    simp[this]
theorem AO{a:Str->Option NameKind}{x:Str}{v:Value}:∀{P:List Str} {vs:List Value} {i:Nat} {m:Str->Option Value},P.Nodup->P[i]? =some x->vs[i]? =some v->a x=some .local->
  bindL a (P.zip vs) m x=some v
 | [],_,_,_,_,h,_,_=>by simp at h
 | _::_,[],_,_,_,_,h,_=>by simp at h
 | p::P,w::vs,0,m,nd,h1,h2,hk=>by
  simp at h1 h2;subst h1;subst h2;show bindL a ((p,w)::P.zip vs) m p=_;unfold bindL;rw[AM λv b=>(Rr.mp nd).1 (TY b).1,Qt hk];simp
 | p::P,w::vs,i+1,m,nd,h1,h2,hk=>by
  show bindL a ((p,w)::P.zip vs) m x=_;unfold bindL;exact AO (i:=i) (Rr.mp nd).2 (by simpa using h1) (by simpa using h2) hk
theorem AQ{a:Str->Option NameKind}{x:Str}{v:Value}:∀{P:List Str} {vs:List Value} {i:Nat} {m:Str->Option Value},P.Nodup->P[i]? =some x->vs[i]? =some v->a x≠some .local->
  bindC a (P.zip vs) m x=some v
 | [],_,_,_,_,h,_,_=>by simp at h
 | _::_,[],_,_,_,_,h,_=>by simp at h
 | p::P,w::vs,0,m,nd,h1,h2,hk=>by
  simp at h1 h2;subst h1;subst h2;show bindC a ((p,w)::P.zip vs) m p=_;unfold bindC;rw[AN λv b=>(Rr.mp nd).1 (TY b).1,Qp hk];simp
 | p::P,w::vs,i+1,m,nd,h1,h2,hk=>by
  show bindC a ((p,w)::P.zip vs) m x=_;unfold bindC;exact AQ (i:=i) (Rr.mp nd).2 (by simpa using h1) (by simpa using h2) hk
def start(N:List Str)(vs:List V):St:=vs.map some++List.replicate (N.length-vs.length) none
def cxOf(CX:CXT)(P:Program)(w:World)(K:Frag)(mg:Str->Option Value)(base:Heap)(N:List Str)(a:Str)(scope:Scope)(f:Addr)(c:Value)(A:Around)(outer:List Env)(s:Shared)(H:Hp)(E:XK):Cx where
 prog:=P
 w:=w
 K:=K
 mg:=mg
 base:=base
 A:=A.deeper (envOfC a scope s.heap.objs.size f c)
 N:=N
 s₀:=s
 H₀:=H
 env:=envOfC a scope s.heap.objs.size f c
 outer:=outer
 stack:=envOfC a scope s.heap.objs.size f c::outer
 ex:=[]
 calm:=true
 fn:=λ_=>true
 pn:=[]
 xe:=λe d=>wpAny (model P w) (A.deeper (envOfC a scope s.heap.objs.size f c)) («leaving» (envOfC a scope s.heap.objs.size f c) e) (λ_ b=>CX outer H s E e b) (λg b=>CX outer H s E g b) d
def r8{a:Scope}{n:Nat}{x:Str}(h:a.names.lookup x=some .cell):∃ c,(cellsFrom n a.names []).lookup x=some c:=by
 have q:=TD a.names n [] (.inl h);exact Option.isSome_iff_exists.mp q
variable{scope:Scope}
def GX {N:List Str} {d:Str} {B:Value} {s C:Shared} {H:Hp} {E:XK} {vs:List V}
  (S:ki N ps scope) (L:A.handled=none) (g:Env0 P w K mg base A outer s H) (O:vs.length=ps.length) (r:Vals vs us)
  (x:InCallC s s.heap.objs.size (bindL (envOfC d scope s.heap.objs.size f B).kindOf (ps.zip us) λ_=>none) (cellsFrom (s.heap.objs.size+1) scope.names []) (bindC (envOfC d scope s.heap.objs.size f B).kindOf (ps.zip us) λ_=>none) C):
  Inv (cxOf CX P w K mg base N d scope f B A outer s H E) [] (start N vs) H C:=by
 have G:ps.length<=N.length:=by have:=congrArg List.length S.pre;rw[Rt]at this;omega
 obtain⟨h1,M,rfl,D⟩:=x.done;have l:∀ b:Addr,b∉(cxOf CX P w K mg base N d scope f B A outer s H E).ex:=λb z=>absurd (show b∈([]:List Addr) from z) (by simp)
 refine⟨⟨g.mod,S.kind,rfl,rfl,Qd _,λy z c h1 h2=>?_,λy j=>?_,λy c _ h=>?_,λ_=>L,Around.frames_deeper g.frames,.inr ⟨rfl,rfl⟩,λb z=>absurd z (l b),g.bs,g.bsz,λb _ _=>l b,λb z=>absurd z (l b),g.funs,g.frf⟩,
  rfl,g.bare,Un.kept D,⟨_,x.toInCall.ns,λi y v h1 h2 h3=>?_⟩,λy c h=>⟨_,x.cell y c h⟩,g.hok.fresh (Qd _),λy c h=>?_,λp o=>absurd (show p∈([]:List (Addr × Obj)) from o) (by simp),g.hok.kept D,?_⟩
 . exact name_of_addr x.apart (Rh h1) (Rh h2)
 . have j:scope.names.lookup y=some .cell\/scope.names.lookup y=some .free:=j;rcases j with j | j
   . exact r8 j
   . exact absurd rfl (S.nofree _ (Rh j))
 . exact QT (x.above y c (Rh h))
 . have t:i<vs.length:=by
    unfold start at h2;by_cases t:i<vs.length
    . exact t
    . rw[QS (by simpa using t)]at h2;rw[List.getElem?_replicate]at h2
      split at h2 <;> cases h2
   have J:vs[i]? =some v:=by
    unfold start at h2;rw[QM (by simpa using t),P5]at h2
    cases e:vs[i]? with
    | none=>rw[e]at h2;cases h2
    | some a=>rw[e]at h2;cases h2;rfl
   obtain⟨u,F,I⟩:=r.get J
   have o:ps[i]? =some y:=by
    rw[← S.pre,List.getElem?_take_of_lt #[0]];exact h1
   have m:ps.Nodup:=by rw[← S.pre];exact S.nd.sublist (List.take_sublist _ _)
   refine⟨u,I,?_⟩;rcases S.par y (Qi o) with k | k
   . exact .inl ⟨k,AO m o F k⟩
   . obtain⟨c,e⟩:=r8 (n:=s.heap.objs.size+1) k;refine .inr ⟨.inl k,c,e,?_⟩;have q:=x.cell y c e;rw[AQ m o F (by show scope.names.lookup y≠_;rw[k];decide)]at q;exact q
 . exact g.hok.fresh (QT (x.above y c (Rh h)))
 . unfold start;show _=N.length;rw[Qn,P0,List.length_replicate];omega
theorem Ju {k:Nat} {name a:Str} {c:Arguments} {d:List Stmt} {X R B Y h ct oc:Value} {U od:Option Addr}
  {G:Array (Option Value)} {N ps:List Str} {sp:Sp} (lk:K.lookup f=some ⟨oc,od,.func (fnOf name a c d scope X R B Y U h ct),G⟩) (L:codeIn K h a=true) (S:ki N ps scope)
  (len:∀ vs H Q E,sp vs H Q E->vs.length=ps.length)
  (i:∀(A:Around) (outer:List Env) (s:Shared) (H:Hp) (vs:List V) (Q:VK) (E:XK),Room k (A.deeper (envOfC a scope s.heap.objs.size f h))->sp vs H Q E->
   ∃ t,PSs (cxOf CX P w K mg base N a scope f h A outer s H E) d t/\t {nx:=λ_ g=>Q .non g,rt:=Q} (start N vs) H):
  FnOk P w K mg base CX (k+1) f (fnOf name a c d scope X R B Y U h ct) ps sp:=by
 refine⟨len,λA outer s H T us vs Q E M m hb r p=>?_⟩;have hl:=len _ _ _ _ p;have KX:K.In s.heap:=m.mod.kin.keeps λb o e=>(m.bs b o e).1;have O:s.heap.NoLimit:=m.mod.nolimit.keeps λb o e=>(m.bs b o e).1
 have j:∀ y∈ps.zip us,scope.names.lookup y.1=some .local\/(scope.names.lookup y.1=some .cell/\((cellsFrom (s.heap.objs.size+1) scope.names []).lookup y.1).isSome=true):=λ⟨n,v⟩ hy=>by
  rcases S.par n (TY hy).1 with q | q
  . exact .inl q
  . exact .inr ⟨q,TD _ _ _ (.inl q)⟩
 refine codeAny_call_function M.depth (KX _ _ lk) rfl S.co S.gen rfl (PySem.W.codeRec_of KX L) (hb _ _ _ _ ?_);refine wpAny_newFunctionEnv_cells S.kind j λab he Z x=>?_;subst he;refine⟨O.keeps x.toInCall.keep,codeAny_func ?_⟩;obtain⟨t,ht,hq⟩:=i A outer s H vs Q E (M.deeper _) p;have I:Inv (cxOf CX P w K mg base N a scope f h A outer s H E) [] (start N vs) H Z:=GX S M.hd m hl r x;refine QX (ht [] Z (start N vs) H _ I hq) (λfl F l=>?_) λe F l=>l
 have z:∀{C:St} {g:Hp} {v:V} {u:Value},Inv (cxOf CX P w K mg base N a scope f h A outer s H E) [] C g F->RelV v u->Q v g->CE outer P w H s Q u F:=
  λ{C g v u} J D q=>⟨v,g,J.os,J.bare,J.base,J.hok,D,q⟩
 cases fl with
 | ret u=>
  obtain⟨v,C,g,J,D,q⟩:=l;exact z J D q
 | next=>
  obtain⟨C,g,J,q⟩:=l;exact z (v:=V.non) (u:=Value.none) J rfl q
 | brk=>
  obtain⟨_,_,_,q⟩:=l;exact False.elim q
 | cont=>
  obtain⟨_,_,_,q⟩:=l;exact False.elim q
section
variable{X:Cx}{x:Str}{p pos:Pos}{e:Expr}{es:List Expr}{t:TA}{id T:String}{r:List V->Hp->VK->Prop}
def tCB(r:List V->Hp->VK->Prop)(t:TA):TE:=λσ H Q=>t σ H λvs a=>r vs a Q
def aq (n:CallR X (.builtin id) r) (d:Gl X x) (u:X.mg x=none) (j:bootBuiltins x=some (.builtin id)) (o:PA X (e::es) t) (k:x≠"__name__":=by decide) (b:(x==("__debug__":Str))=false:=by decide)
  (m:starEach (e::es) X.env=(false,eval e X.env)::starEach es X.env:=by rfl) (a:(backTo pos (starEach es X.env)).any (·.1)=false:=by rfl):PE X (.Call (.Name x p) (e::es) [] pos) (tCB r t):=by
 intro c s σ H Q I h;refine Rm (jz I d u j ?_ k b);exact SM (thn (o pos c s σ H _ I h) λus i ⟨vs,l,f,q,g⟩=>n c i σ l vs us Q f q g) m a
def aT (n:CallR X (.type T) r) (d:Gl X x) (u:X.mg x=none) (j:bootBuiltins x=some (.type T)) (o:PA X (e::es) t) (k:x≠"__name__":=by decide) (b:(x==("__debug__":Str))=false:=by decide)
  (m:starEach (e::es) X.env=(false,eval e X.env)::starEach es X.env:=by rfl) (a:(backTo pos (starEach es X.env)).any (·.1)=false:=by rfl):PE X (.Call (.Name x p) (e::es) [] pos) (tCB r t):=by
 intro c s σ H Q I h;refine Rm (jz I d u j ?_ k b);exact Q9 (thn (o pos c s σ H _ I h) λus i ⟨vs,l,f,q,g⟩=>n c i σ l vs us Q f q g) m a
end
end L2
namespace HT
open PySem PyProof.Rows
section
open PySem.SeqAt
open PySem.AutoSeq1 (wpAny_loadPart')
open PySem.MeetsSeq PySem.MeetsSeq2 PySem.MeetsSeq3
end
section
variable{prog:Program}{w:World}{A:Around}{E:Value->Shared->Prop}{s:Shared}
def sIx(n d:Nat):Option Int->Nat
 | none=>d
 | some v=>if v<0 then(v+(n:Int)).toNat else min v.toNat n
def sIx_none(n d:Nat):sIx n d none=d:=rfl
def sIx_nat(n d k:Nat):sIx n d (some (k:Int))=min k n:=by
 show(if (k:Int)<0 then((k:Int)+(n:Int)).toNat else min (k:Int).toNat n)=min k n;rw[if_neg #[0],Int.toNat_natCast]
end
end HT
namespace L2
open PySem PySem.Spec PyProof.Rows
abbrev TO:=St->Hp->(Option Int->Hp->Prop)->Prop
def PO(X:Cx)(e:Option Expr)(t:TO):Prop:=
 ∀(b:List (Addr × Obj)) (s:Shared) (σ:St) (H:Hp) (Q:Option Int->Hp->Prop),Inv X b σ H s->t σ H Q->
  wpAny (model X.prog X.w) X.A (evalPart e X.env) (λu c=>∃ o a,Inv X b σ a c/\IsPart u o/\Q o a) X.xe s
def kj:TO:=λ_ H Q=>Q none H
def tPart(t:TE):TO:=λσ H Q=>t σ H λx a=>∃ i,x=.int i/\Q (some i) a
theorem yi{ns:∅}:∀{us:List Value},Vals (ns.map V.int) us->IntsAre us ns:=by
 induction ns with
 | nil=>intro us r;rw[List.map_nil]at r;cases r;exact .nil
 | cons n ns c=>
  intro us r;rw[QJ]at r
  cases r with
  | cons b a=>
   obtain⟨t,e⟩:=b;subst e;exact .cons n t (c a)
section
variable{X:Cx}{e:Expr}{te:TE}{lo hi:Option Expr}{tl th:TO}{pos p2:Pos}
def qP:PO X none kj:=by
 intro a s σ H Q I h;rw[evalPart_none];exact QN ⟨none,H,I,.none,h⟩
def i9(h:PE X e te):PO X (some e) (tPart te):=by
 intro g s σ H Q I a;rw[evalPart_some];refine thn (h g s σ H _ I a) λu j ⟨x,d,b,f,c⟩=>?_;obtain⟨i,rfl,q⟩:=c;obtain⟨t,rfl⟩:=f;exact⟨some i,d,b,.int i t,q⟩
def SlR(X:Cx)(r:V->Option Int->Option Int->Hp->VK->Prop):Prop:=
 ∀(b:List (Addr × Obj)) (s:Shared) (σ:St) (H:Hp) (x:V) (v c d:Value) (lo hi:Option Int) (a:Addr) (Q:VK),Inv X b σ H s->RelV x v->s.heap.IsSliceOf a c d .none->IsPart c lo->IsPart d hi->r x lo hi H Q->
  ∃ T id,typeLookup (.type T) "__getitem__"=pure (some (.builtin id))/\s.TypeIs v T/\wpAny (model X.prog X.w) X.A (getItem v (.ref a)) (EP X b σ Q) X.xe s
def tSl(r:V->Option Int->Option Int->Hp->VK->Prop)(te:TE)(tl th:TO):TE:=λσ H Q=>te σ H λx c=>tl σ c λl b=>th σ b λu a=>r x l u a Q
def jO{r:V->Option Int->Option Int->Hp->VK->Prop}(E:SlR X r)(N:PE X e te)(B:PO X lo tl)(C:PO X hi th):PE X (.Subscript e (.Slice lo hi none p2) pos) (tSl r te tl th):=by
 intro c s σ H Q I h;refine Subscript_ (thn (N c s σ H _ I h) λv M ⟨x,t,m,y,L⟩=>?_);refine wpAny_Slice (thn (B c M σ t _ m L) λf K ⟨l,J,i,G,F⟩=>thn (C c K σ J _ i F) λd a ⟨u,g,D,z,n⟩=>?_);rw[evalPart_none];refine QN ?_;have p:Inv X c σ g {a with heap:=a.heap.push {cls:=.type "slice",data:=.fields #[f,d,.none]}}:=D.kept (t':=a.toks) λb O q=>Qb _ q;obtain⟨T,id,k,o,j⟩:=E c {a with heap:=a.heap.push {cls:=.type "slice",data:=.fields #[f,d,.none]}} σ g x v f d l u a.heap.objs.size Q p y (Heap.IsSliceOf.new ..) G z n;show wpAny (model X.prog X.w) X.A (subscriptTail e (.Slice lo hi none p2) v (.ref a.heap.objs.size)) (EP X c σ Q) X.xe {a with heap:=a.heap.push {cls:=.type "slice",data:=.fields #[f,d,.none]}};exact tail_any (ops:=[.ref a.heap.objs.size,v]) o k j (by with_unfolding_all rfl)
def cutV(xs:List V)(lo hi:Option Int):List V:=(xs.drop (HT.sIx xs.length 0 lo)).take (HT.sIx xs.length xs.length hi-HT.sIx xs.length 0 lo)
def Ej(xs:List V)(lo hi:Option Int):(cutV xs lo hi).length<=xs.length:=by
 unfold cutV;rw[Rt,List.length_drop];omega
end
def ixN(n:Nat)(i:Int):Option Nat:=if 0<=i then(if i<n then some i.toNat else none) else if -(n:Int)<=i then some (i+n).toNat else none
def atI{α:Type}(xs:List α)(i:Int):Option α:=(ixN xs.length i).bind λj=>xs[j]?
def JK{n:Nat}{i:Int}{j:Nat}(h:ixN n i=some j):seqIndex? i n=some j/\j<n/\ -(n:Int)<=i/\i<n:=by
 unfold ixN at h;by_cases h0:0<=i
 . rw[Qt h0]at h;by_cases h1:i<n
   . rw[Qt h1]at h;have e:i.toNat=j:=RE h;exact⟨by rw[seqIndex_of h0 h1,e],by omega,by omega,h1⟩
   . rw[Qp h1]at h;cases h
 . rw[Qp h0]at h;by_cases h1: -(n:Int)<=i
   . rw[Qt h1]at h;have e:(i+n).toNat=j:=RE h;exact⟨by rw[seqIndex_neg #[0] h1,e],by omega,h1,by omega⟩
   . rw[Qp h1]at h;cases h
theorem z4{α:Type}{xs:List α}{i:Int}{v:α}(h:atI xs i=some v):∃ j,seqIndex? i xs.length=some j/\xs[j]? =some v/\j<xs.length/\ -(xs.length:Int)<=i/\i<xs.length:=by
 unfold atI at h
 cases e:ixN xs.length i with
 | none=>rw[e]at h;cases h
 | some j=>
  rw[e]at h;obtain⟨h1,h2,h3,h4⟩:=JK e;exact⟨j,h1,h,h2,h3,h4⟩
def dS{α:Type}{xs:List α}{j:Nat}{v:α}(h:xs[j]? =some v):atI xs (j:Int)=some v:=by
 have a:j<xs.length:=(P8.mp h).1
 have e:ixN xs.length (j:Int)=some j:=by
  unfold ixN;rw[Qt #[0],Qt #[0]];simp
 unfold atI;rw[e];exact h
def z5(b:Expr):Prop:=∀ o i,subscripted b false o i=operate [o,i] (getItem o i)
def IxR(X:Cx)(r:R2):Prop:=
 ∀(b a:Expr) (c:List (Addr × Obj)) (s:Shared) (σ:St) (H:Hp) (x y:V) (v u:Value) (Q:VK),Inv X c σ H s->RelV x v->RelV y u->r x y H Q->
  subscripted a false v u=operate [v,u] (getItem v u)->wpAny (model X.prog X.w) X.A (subscriptTail b a v u) (EP X c σ Q) X.xe s
def MtR(X:Cx)(id:String)(r:V->List V->Hp->VK->Prop):Prop:=
 ∀(c:List (Addr × Obj)) (s:Shared) (σ:St) (H:Hp) (x:V) (b:List V) (v:Value) (a:List Value) (Q:VK),Inv X c σ H s->RelV x v->Vals b a->r x b H Q->
  wpAny (model X.prog X.w) X.A (call (.builtin id) (v::a)) (EP X c σ Q) X.xe s
section
variable{X:Cx}{a b:Expr}{ta tb:TE}{pos:Pos}
def yj{r:R2}(l:IxR X r)(k:PE X a ta)(i:PE X b tb)(e:z5 b):PE X (.Subscript a b pos) (tOp r ta tb):=by
 intro m s σ H Q I h;exact Subscript_ (binT k i I h λv u g x y f c j d q=>l a b m g σ f x y v u Q c j d q (e _ _))
def rIxL(K:Frag):R2:=λx y H Q=>∃ p a i v,x=.ref p/\y=.int i/\SqL K H p a/\atI a i=some v/\Q v H
def rIxT(K:Frag):R2:=λx y H Q=>∃ p a i v,x=.ref p/\y=.int i/\SqT K H p a/\atI a i=some v/\Q v H
def rIxS:R2:=λx y H Q=>∃ z i c,x=.str z/\y=.int i/\z.length<=sizeLine/\atI z.cps.toList i=some c/\Q (.str ⟨#[c]⟩) H
def EV:IxR X (rIxL X.K):=by
 intro d f g s σ H x y v u Q I m n h l;obtain⟨p,G,i,z,rfl,rfl,A,C,q⟩:=h;cases m;obtain⟨t,rfl⟩:=n;obtain⟨D,r,e,F⟩:=I.list A;obtain⟨j,h1,h2,h3,h4,h5⟩:=z4 C;obtain⟨w,k,b⟩:=r.get h2;have B:=r.length;have E:=ua;have a:EP X g σ Q w s:=⟨z,H,I,b,q⟩;by_cases h0:0<=i
 . have c:i.toNat=j:=by
    rw[seqIndex_of h0 h5]at h1;exact RE h1
   exact item_listR e.isList h0 #[0] (by rw[c];simpa using k) a l
 . have c:(i+(D.toArray.size:Int)).toNat=j:=by
    rw[seqIndex_neg #[0] h4]at h1;rw[Ql,← B];exact RE h1
   exact TF (x:=w) e.isList.typeIs slot_list_getitem.lookup
    (wpAny_getItem_list_neg (Q:=λr o=>r=w/\EP X g σ Q r o) e.isList #[0] (by rw[Ql] <;> omega) #[0] (by rw[c];simpa using k) ⟨rfl,a⟩) l
def KR:IxR X (rIxT X.K):=by
 intro c a f s σ H x y v u Q I B g h l;obtain⟨p,E,i,z,rfl,rfl,n,A,q⟩:=h;cases B;obtain⟨t,rfl⟩:=g;obtain⟨F,r,e,D⟩:=I.tuple n;obtain⟨j,h1,h2,h3,h4,h5⟩:=z4 A;obtain⟨w,k,b⟩:=r.get h2;have o:=r.length;have C:=ua;have d:EP X f σ Q w s:=⟨z,H,I,b,q⟩
 exact TF (x:=w) e.typeIs slot_tuple_getitem.lookup
  (getItem_tuple (j:=j) (Q:=λr m=>r=w/\EP X f σ Q r m) e #[0] #[0] (by rw[Ql,← o];exact h1) (by simpa using k) ⟨rfl,d⟩) l
def KS:IxR X rIxS:=by
 intro b a n s σ H x y v u Q I k d h e;obtain⟨z,i,c,rfl,rfl,l,g,q⟩:=h;obtain⟨t,rfl⟩:=k;obtain⟨o,rfl⟩:=d;obtain⟨j,h1,h2,h3,h4,h5⟩:=z4 g;have f:z.cps.toList.length=z.length:=by simp[Str.length]
 rw[f]at h1 h4 h5;have m:=ua
 exact tail_any (SN s z t) slot_str_getitem.lookup (getItem_str (c:=c) (by
  have e1:decide (i < -(2^63:Int))=false:=P3 #[0];have e2:decide (i ≥ 2^63)=false:=P3 #[0];rw[e1,e2,Bool.or_false]) (by rw[h1];simpa using h2) ⟨.str ⟨#[c]⟩,H,I.tok _,⟨_,rfl⟩,q⟩) e
def Inv.lst{a:List (Addr × Obj)}{σ:St}{H:Hp}{s:Shared}{p:Addr}{xs:List V}(I:Inv X a σ H s)(h:H p=↥xs):
  ∃(PU:List Value) (n:Nat),Vals xs PU/\s.heap.get? p=some {cls:=.type "list",data:=.seq PU.toArray n}/\xs.length<=sizeLine:=by
 obtain⟨z,PU,n,r,e⟩:=I.hok p _ h;exact⟨PU,n,r,e,z⟩
def B8(b a:Option Int)(n:Nat):(sliceBounds b a none n).1=((HT.sIx n 0 b:Nat):Int)/\(sliceBounds b a none n).2.1=((HT.sIx n n a:Nat):Int)/\(sliceBounds b a none n).2.2=1:=by
 refine⟨?_,?_,rfl⟩
 . cases b with
   | none=>simp[sliceBounds,HT.sIx]
   | some i=>
    simp only[sliceBounds,HT.sIx,Option.getD_none,show(1:Int)>0 by decide,Uf];by_cases h:i<0
    . simp only[h,Uf] <;> omega
    . simp only[h,if_false] <;> omega
 . cases a with
   | none=>simp[sliceBounds,HT.sIx]
   | some i=>
    simp only[sliceBounds,HT.sIx,Option.getD_none,show(1:Int)>0 by decide,Uf];by_cases h:i<0
    . simp only[h,Uf] <;> omega
    . simp only[h,if_false] <;> omega
def Bm(PU:List Value)(a b:Option Int):slicePick PU.toArray a b none=((PU.drop (HT.sIx PU.length 0 a)).take (HT.sIx PU.length PU.length b-HT.sIx PU.length 0 a)).toArray:=by
 obtain⟨h1,h2,h3⟩:=B8 a b PU.toArray.size;unfold slicePick;rw[h1,h2,h3];simp only[sliceRange_one,pick_run,Ql] <;> rfl
def rSlL(K:Frag):V->Option Int->Option Int->Hp->VK->Prop:=λx d c H Q=>∃ a b,x=.ref a/\SqL K H a b/\∀ p,H p=none->Q (.ref p) (upd H p (.lst (cutV b d c)))
def JL:SlR X (rSlL X.K):=by
 intro z s σ H x v u w d e t Q I l j g i h;obtain⟨a,c,rfl,n,q⟩:=h;cases l;obtain⟨y,r,f,k⟩:=I.list n;have m:=r.length;refine⟨"list",_,slot_list_getitem.lookup,f.isList.typeIs,?_⟩;refine wpAny_getItem_list_slice f.isList j g i .none (by simp) ?_ (by rw[Ql] <;> omega);rw[Bm,← m];refine⟨.ref s.heap.objs.size,_,I.laid (t':=s.toks) (o:=.lst (cutV c d e)) (λb p q=>Qb _ q) (Qd _) ?_,rfl,q _ (I.hok.fresh (Qd _))⟩;exact⟨Qa (Ej c d e) k,_,0,(r.drop (HT.sIx c.length 0 d)).take (HT.sIx c.length c.length e-HT.sIx c.length 0 d),QG _ rfl⟩
def flatV:V->Bool
 | .non=>true
 | .bl _=>true
 | .int _=>true
 | .str _=>true
 | _=>false
def eqV:V->V->Bool
 | .non,.non=>true
 | .bl a,.bl b=>a==b
 | .bl a,.int b=>(if a then 1 else 0)==b
 | .int a,.bl b=>a==(if b then 1 else 0)
 | .int a,.int b=>a==b
 | .str a,.str b=>a==b
 | _,_=>false
theorem KU{A:Around}{s:Shared}{y x:V}{u v:Value}(e:RelV y u)(c:RelV x v)(g:flatV y=true)(f:flatV x=true):SeqAt.EqAt A s u v (eqV y x):=by
 cases y with
 | non=>
  cases e
  cases x with
  | non=>cases c;exact SeqAt.EqAt.same _
  | bl b=>cases c;exact SeqAt.EqAt.none_bool b
  | int b=>obtain⟨t,rfl⟩:=c;exact SeqAt.EqAt.none_int b t
  | str b=>obtain⟨t,rfl⟩:=c;exact SeqAt.EqAt.none_str b t
  | _=>exact absurd (show false=true from f) P7
 | bl a=>
  cases e
  cases x with
  | non=>cases c;exact SeqAt.EqAt.bool_none a
  | bl b=>cases c;exact SeqAt.EqAt.bool_bool a b
  | int b=>obtain⟨t,rfl⟩:=c;exact SeqAt.EqAt.bool_int a b t
  | str b=>obtain⟨t,rfl⟩:=c;exact SeqAt.EqAt.bool_str a b t
  | _=>exact absurd (show false=true from f) P7
 | int a=>
  obtain⟨d,rfl⟩:=e
  cases x with
  | non=>cases c;exact SeqAt.EqAt.int_none a d
  | bl b=>cases c;exact SeqAt.EqAt.int_bool a d b
  | int b=>obtain⟨t,rfl⟩:=c;exact SeqAt.EqAt.int_int a d b t
  | str b=>obtain⟨t,rfl⟩:=c;exact SeqAt.EqAt.int_str a d b t
  | _=>exact absurd (show false=true from f) P7
 | str a=>
  obtain⟨d,rfl⟩:=e
  cases x with
  | non=>cases c;exact SeqAt.EqAt.str_none a d
  | bl b=>cases c;exact SeqAt.EqAt.str_bool a d b
  | int b=>obtain⟨t,rfl⟩:=c;exact SeqAt.EqAt.str_int a d b t
  | str b=>obtain⟨t,rfl⟩:=c;exact SeqAt.EqAt.str_str a d b t
  | _=>exact absurd (show false=true from f) P7
 | _=>exact absurd (show false=true from g) P7
def eqU(x:V)(u:Value):Bool:=match u with
 | .none=>eqV .non x
 | .bool b=>eqV (.bl b) x
 | .int i _=>eqV (.int i) x
 | .str z _=>eqV (.str z) x
 | _=>false
theorem GY{x y:V}{u:Value}(r:RelV y u)(f:flatV y=true):eqU x u=eqV y x:=by
 cases y with
 | non=>cases r;rfl
 | bl b=>cases r;rfl
 | int i=>obtain⟨t,rfl⟩:=r;rfl
 | str z=>obtain⟨t,rfl⟩:=r;rfl
 | _=>exact absurd (show false=true from f) P7
theorem qQ{x:V}:∀{xs:List V} {us:List Value},Vals xs us->xs.all flatV=true->us.any (eqU x)=xs.any λy=>eqV y x
 | _,_,.nil,_=>rfl
 | y::xs,u::us,.cons r t,f=>by
  rw[SU,Qy]at f;rw[Sc,Sc,GY r f.1,qQ t f.2]
theorem oi{A:Around}{s:Shared}{x:V}{v:Value}(c:RelV x v)(b:flatV x=true):∀{xs:List V} {us:List Value},Vals xs us->xs.all flatV=true->∀ u∈us,SeqAt.EqAt A s u v (eqU x u)
 | _,_,.nil,_=>λu a=>by cases a
 | y::xs,u::us,.cons r t,f=>λd a=>by
  rw[SU,Qy]at f;rcases Qs.mp a with rfl | a
  . rw[GY r f.1];exact KU r c f.1 b
  . exact oi c b t f.2 d a
def inV(x:V)(xs:List V):Bool:=xs.any λy=>eqV y x
def rIn(K:Frag)(b:Bool):R2:=λx y H Q=>∃ p a,y=.ref p/\(SqL K H p a\/SqT K H p a)/\flatV x=true/\a.all flatV=true/\Q (.bl (if b then !inV x a else inV x a)) H
def ud:OpR X (compareOp .In) (rIn X.K false):=by
 intro l s σ H x y v u Q I g i h;obtain⟨p,k,rfl,a,f,c,q⟩:=h;cases i;rcases a with a | a
 . obtain⟨b,r,d,j⟩:=I.list a;refine SeqAt.in_listAt (eqU x) d.isList (λw e=>oi g f r c w (by simpa using e)) ⟨.bl _,H,I,rfl,?_⟩;rw[show b.toArray.any (eqU x)=b.any (eqU x) by simp,qQ r c];exact q
 . obtain⟨b,r,d,j⟩:=I.tuple a;refine SeqAt.in_tupleAt (eqU x) d (λw e=>oi g f r c w (by simpa using e)) ⟨.bl _,H,I,rfl,?_⟩;rw[show b.toArray.any (eqU x)=b.any (eqU x) by simp,qQ r c];exact q
def ue:OpR X (compareOp .NotIn) (rIn X.K true):=by
 intro l s σ H x y v u Q I g i h;obtain⟨p,k,rfl,a,f,c,q⟩:=h;cases i;rcases a with a | a
 . obtain⟨b,r,d,j⟩:=I.list a;refine SeqAt.notIn_listAt (eqU x) d.isList (λw e=>oi g f r c w (by simpa using e)) ⟨.bl _,H,I,rfl,?_⟩;rw[show b.toArray.any (eqU x)=b.any (eqU x) by simp,qQ r c];exact q
 . obtain⟨b,r,d,j⟩:=I.tuple a;refine SeqAt.notIn_tupleAt (eqU x) d (λw e=>oi g f r c w (by simpa using e)) ⟨.bl _,H,I,rfl,?_⟩;rw[show b.toArray.any (eqU x)=b.any (eqU x) by simp,qQ r c];exact q
def B9:OpR X (compareOp .NotIn) (λx y H Q=>∃ i j,x=.str i/\y=.str j/\Q (.bl (!(!(Builtin.Str.occurrences j i 0 j.length 1).isEmpty))) H):=by
 intro c s σ H x y v u Q I b a h;obtain⟨i,j,rfl,rfl,q⟩:=h;obtain⟨t,rfl⟩:=b;obtain⟨d,rfl⟩:=a;exact notIn_str ⟨.bl _,H,I,rfl,q⟩
def iE:CallR X (.builtin "len") (λxs H Q=>∃ p ys,xs=[.ref p]/\(SqL X.K H p ys\/SqT X.K H p ys)/\Q (.int ys.length) H):=by
 intro k s σ H xs j Q I r h;obtain⟨p,ys,rfl,a,q⟩:=h;obtain⟨u,rfl,g⟩:=eP r;cases g;have i:=ua;rcases a with a | a
 . obtain⟨e,d,b,f⟩:=I.list a;have c:=d.length;exact Calls.call_len_list b.isList (by simp only[Ql] <;> omega) ⟨.int ys.length,H,I.tok _,⟨s.toks+1,by rw[Ql,c]⟩,q⟩
 . obtain⟨e,d,b,f⟩:=I.tuple a;have c:=d.length;exact len_tuple b (by simp only[Ql] <;> omega) ⟨.int ys.length,H,I.tok _,⟨s.toks+1,by rw[Ql,c]⟩,q⟩
def Ca:CallR X (.builtin "len") (λxs H Q=>∃ z,xs=[.str z]/\z.length<=sizeLine/\Q (.int z.length) H):=by
 intro b s σ H xs a Q I r h;obtain⟨z,rfl,c,q⟩:=h;obtain⟨u,rfl,t,rfl⟩:=eP r;have d:=ua;exact len_str #[0] ⟨.int z.length,H,I.tok _,⟨_,rfl⟩,q⟩
def Cb:CallR X (.type "list") (λxs H Q=>∃ p ys,xs=[.ref p]/\(SqL X.K H p ys\/SqT X.K H p ys)/\∀ l,H l=none->Q (.ref l) (upd H l (.lst ys))):=by
 intro B s σ H xs C Q I r h;obtain⟨p,ys,rfl,g,q⟩:=h;obtain⟨u,rfl,z⟩:=eP r;cases z
 have k:∀(c:List Value),Vals ys c->ys.length<=sizeLine->∀(a:Heap) (d:Nat),(∀ b y,s.heap.get? b=some y->a.get? b=some y)->
   a.get? s.heap.objs.size=some {cls:=.type "list",dict:=none,data:=.seq c.toArray d,slots:=#[]}->EP X B σ Q (.ref s.heap.objs.size) {s with heap:=a}:=λc f j a d i e=>
  ⟨.ref s.heap.objs.size,_,I.laid (t':=s.toks) i (Qd _) (show ObjOk X.prog X.w _ a _ (.lst ys) from⟨j,c,d,f,e⟩),rfl,q _ (I.hok.fresh (Qd _))⟩
 rcases g with g | g
 . obtain⟨c,f,m,j⟩:=I.list g;have A:=f.length;obtain⟨o,x,t,n,v⟩:=m.isList;exact call_list_seq p (.inl rfl) x t v (λa d i e=>k c f j a d i e) (by simp only[Ql] <;> omega)
 . obtain⟨c,f,m,j⟩:=I.tuple g;have A:=f.length;obtain⟨o,x,t,n,v⟩:=m;exact call_list_seq p (.inr rfl) x t v (λa d i e=>k c f j a d i e) (by simp only[Ql] <;> omega)
def Bn:CallR X (.type "tuple") (λxs H Q=>∃ p ys,xs=[.ref p]/\((SqL X.K H p ys/\∀ l,H l=none->Q (.ref l) (upd H l (.tup ys)))\/(SqT X.K H p ys/\Q (.ref p) H))):=by
 intro k s σ H xs v Q I r h;obtain⟨p,ys,rfl,h⟩:=h;obtain⟨u,rfl,t⟩:=eP r;cases t;rcases h with ⟨f,q⟩ | ⟨f,q⟩
 . obtain⟨d,g,c,j⟩:=I.list f;have x:=g.length;refine call_tuple_list c.isList (λa n=>?_) (by simp only[Ql] <;> omega);have i:Inv X k σ H {s with heap:=a}:=I.kept (t':=s.toks) n
   have m:Inv X k σ (upd H a.objs.size (.tup ys)) {s with heap:=a.push {cls:=.type "tuple",data:=.seq d.toArray}}:=
    i.laid (t':=s.toks) (λb o e=>Qb _ e) (Qd _) (show ObjOk X.prog X.w _ _ _ (.tup ys) from⟨j,d,g,IsTup.new _ _⟩)
   exact⟨.ref a.objs.size,_,m,rfl,q _ (i.hok.fresh (Qd _))⟩
 . obtain⟨d,g,c,j⟩:=I.tuple f;exact call_tuple_same c ⟨.ref p,H,I,rfl,q⟩
def tyV(K:Frag)(T:String)(x:V)(H:Hp):Prop:=match x with
 | .str _=>T="str"
 | .int _=>T="int"
 | .ref p=>(T="list"/\∃ b,SqL K H p b)\/(T="tuple"/\∃ o,K.lookup p=some o/\o.cls=.type "tuple"/\o.dict=none)\/
   (T="dict"/\((∃ a,H p=some (.dK a))\/∃ a,H p=some (.dT a)))\/(T="set"/\∃ S n,H p=some (.set S n))
 | _=>False
theorem GZ{q:List (Addr × Obj)}{σ:St}{H:Hp}{s:Shared}{T:String}{x:V}{v:Value}(I:Inv X q σ H s)(r:RelV x v)(f:tyV X.K T x H):
  s.TypeIs v T/\∀ a,v=.ref a->∃ j,s.heap.get? a=some j/\j.dict=none:=by
 cases x with
 | str z=>
  obtain⟨t,rfl⟩:=r;cases (show T="str" from f);exact⟨SN s z t,λ_ e=>nomatch e⟩
 | int i=>
  obtain⟨t,rfl⟩:=r;cases (show T="int" from f);exact⟨typeIs_int s i t,λ_ e=>nomatch e⟩
 | ref p=>
  cases r;rcases f with ⟨rfl,u,k⟩ | ⟨rfl,o,b,m,g⟩ | ⟨rfl,b⟩ | ⟨rfl,S,n,b⟩
  . obtain⟨w,_,h,_⟩:=I.list k;refine⟨h.isList.typeIs,λa e=>?_⟩;cases e;obtain⟨o,n,e,c,g,_⟩:=h;exact⟨o,e,g⟩
  . refine⟨⟨o,I.kIn p o b,m⟩,λa e=>?_⟩;cases e;exact⟨o,I.kIn _ o b,g⟩
  . have z:∃ o,s.heap.get? p=some o/\o.ExactDict:=by
     rcases b with ⟨l,b⟩ | ⟨l,b⟩
     . obtain⟨_,_,_,_,o,_,_,e,d,_⟩:=I.hok p _ b;exact⟨o,e,d⟩
     . obtain⟨_,_,_,_,o,_,_,e,d,_⟩:=I.hok p _ b;exact⟨o,e,d⟩
    obtain⟨o,e,d⟩:=z;refine⟨⟨o,e,d.1⟩,λa e2=>?_⟩;cases e2;exact⟨o,e,d.2.1⟩
  . obtain⟨o,_,_,_,e,d,_⟩:=I.hok p _ b;refine⟨⟨o,e,d.1⟩,λa e2=>?_⟩;cases e2;exact⟨o,e,d.2.1⟩
 | _=>exact False.elim f
def Cd(K:Frag)(T:String)(r:V->List V->Hp->VK->Prop)(b:TE):TE:=λσ H Q=>b σ H λx a=>tyV K T x a/\r x [] a Q
def tBM(K:Frag)(T:String)(r:V->List V->Hp->VK->Prop)(c:TE)(t:TA):TE:=λσ H Q=>c σ H λx a=>tyV K T x a/\t σ a λd b=>r x d b Q
variable{o e:Expr}{es:List Expr}{to:TE}{t:TA}{name:Str}{apos cpos:Pos}{T id:String}{r:V->List V->Hp->VK->Prop}
def Ce (j:PlainAttrs T) (c:Slot T name id) (d:typeOf (.builtin id)=pure (.type "method_descriptor")) (n:MtR X id r) (p:PE X o to)
  (a:attributeBase o name X.env (eval o X.env)=eval o X.env:=by rfl) (b:(apos.endLine==cpos.line)=true:=by rfl):PE X (.Call (.Attribute o name apos) [] [] cpos) (Cd X.K T r to):=by
 intro g s σ H Q I h;refine wpAny_Call_method0_late a b (thn (p g s σ H _ I h) λv k ⟨x,l,e,f,m,i⟩=>?_);obtain⟨h1,h2⟩:=GZ e f m;exact⟨T,id,j,c,d,h1,h2,TH rfl (PySem.evalArgs_none (n g k σ l x [] v [] Q e f .nil i))⟩
def dh (E:PlainAttrs T) (f:Slot T name id) (i:typeOf (.builtin id)=pure (.type "method_descriptor")) (w:MtR X id r) (z:PE X o to) (G:PA X (e::es) t)
  (b:attributeBase o name X.env (eval o X.env)=eval o X.env:=by rfl)
  (d:((backTo cpos (starEach (e::es) X.env)).all (λx=>!x.1)&&(backToKw cpos (keywordEach [] X.env)).all (λx=>x.1.isSome)
   &&decide ((e::es).length+([]:List Keyword).length+(if ([]:List Keyword).isEmpty then 0 else 1)<30))=true:=by rfl)
  (c:(apos.endLine==cpos.line)=true:=by rfl) (A:starEach (e::es) X.env=(false,eval e X.env)::starEach es X.env:=by rfl) (a:(backTo cpos (starEach es X.env)).any (·.1)=false:=by rfl):
  PE X (.Call (.Attribute o name apos) (e::es) [] cpos) (tBM X.K T r to t):=by
 intro g s σ H Q I h;refine wpAny_Call_method_late b d c rfl (thn (z g s σ H _ I h) λv F ⟨x,u,j,k,p,D⟩=>?_);obtain⟨h1,h2⟩:=GZ j k p;refine⟨T,id,E,f,i,h1,h2,?_⟩;have l:=G cpos g F σ u _ j D;rw[A]at l ⊢;refine TH (by show(false||(backTo cpos (starEach es X.env)).any (·.1))=false;rw[a] <;> rfl) (Calls.evalArgs_plain ?_);exact thn l λq C ⟨vs,B,m,n,y⟩=>w g C σ B x vs v q Q m k n y
end
def MtM(X:Cx)(id:String)(r:V->List V->Hp->VK->Prop):Prop:=
 ∀(c:List (Addr × Obj)) (s:Shared) (σ:St) (H:Hp) (x:V) (b:List V) (v:Value) (a:List Value) (Q:VK),Inv X c σ H s->RelV x v->Vals b a->r x b H Q->
  wpAny (model X.prog X.w) X.A (call (.builtin id) (v::a)) (EP X c σ Q) X.xe s
theorem Vals.one:∀{x:V} {us:List Value},Vals [x] us->∃ u,us=[u]/\RelV x u
 | _,_,.cons r .nil=>⟨_,rfl,r⟩
theorem Vals.zero:∀{us:List Value},Vals [] us->us=[]
 | _,.nil=>rfl
theorem Vals.dropLast{xs:List V}{us:List Value}(h:Vals xs us):Vals xs.dropLast us.dropLast:=by
 induction h with
 | nil=>exact .nil
 | cons r t a=>
  cases t with
  | nil=>exact .nil
  | cons q b=>exact .cons r a
theorem Vals.eraseIdx:∀{xs:List V} {us:List Value} (i:Nat),Vals xs us->Vals (xs.eraseIdx i) (us.eraseIdx i)
 | _,_,_,.nil=>.nil
 | _,_,0,.cons _ t=>t
 | _,_,i+1,.cons r t=>.cons r (Vals.eraseIdx i t)
theorem Vals.rep{xs:List V}{us:List Value}(h:Vals xs us):∀ k:Nat,Vals (List.replicate k xs).flatten (List.replicate k us).flatten
 | 0=>.nil
 | k+1=>by
  rw[RX,RX,Sw,Sw];exact Vals.append h (Vals.rep h k)
theorem FK{α:Type}(l:List α):l.eraseIdx (l.length-1)=l.dropLast:=by
 induction l with
 | nil=>rfl
 | cons a r c=>
  cases r with
  | nil=>rfl
  | cons b r=>
   have e:(a::b::r).length-1=((b::r).length-1)+1:=by
    have h1:(a::b::r).length=r.length+2:=rfl;have h2:(b::r).length=r.length+1:=rfl;omega
   rw[e,List.eraseIdx_cons_succ,c]
   all_goals rfl
theorem AR{α:Type}:∀(l:List α) (i:Nat),(l.eraseIdx i).length<=l.length
 | [],_=>Qd _
 | _::_,0=>R5 _
 | _::r,i+1=>SO (AR r i)
theorem AS(PU:List Value):∀(k:Nat) (a:List Value),
  List.foldl (λb c=>b++c) a.toArray (List.replicate k PU.toArray)=(a++(List.replicate k PU).flatten).toArray
 | 0,a=>by simp
 | k+1,a=>by
  have e:a.toArray++PU.toArray=(a++PU).toArray:=by simp
  have e2:(a++PU)++(List.replicate k PU).flatten=a++(List.replicate (k+1) PU).flatten:=by
   rw[RX,Sw,Tp]
  rw[← e2,← AS PU k (a++PU),← e,RX,Sb]
section
variable{X:Cx}{PN:List (Addr × Obj)}{σ:St}{H:Hp}{s:Shared}{l b:Addr}{xs ys zs:List V}
def Inv.lset {PU its':List Value} {n:Nat} {f:Array Value->Array Value} {t':Nat} (I:Inv X PN σ H s) (a:H l=↥xs)
  (e:s.heap.get? l=some {cls:=.type "list",data:=.seq PU.toArray n}) (c:f PU.toArray=its'.toArray) (d:Vals ys its') (b:ys.length<=sizeLine):
  Inv X PN σ (upd H l (.lst ys)) {s with heap:=s.heap.update l (Obj.mapSeq f),toks:=t'}:=by
 have q:=PySem.IsL.update e f;rw[c]at q;refine I.write (x:=l) (e:=l) (by rw[a];exact trivial) (.inl rfl) (λi u g h=>(Sx s.heap (Obj.mapSeq f) (S3 g)).trans h) ⟨_,q⟩ ?_;exact⟨b,its',_,d,q⟩
def Inv.lnew{PU:List Value}{t':Nat}(I:Inv X PN σ H s)(b:Vals ys PU)(a:ys.length<=sizeLine):
  Inv X PN σ (upd H s.heap.objs.size (.lst ys)) {s with heap:=s.heap.push {cls:=.type "list",data:=.seq PU.toArray},toks:=t'}:=
 I.laid (λ_ _ q=>Qb _ q) (Qd _) ⟨a,PU,0,b,QG _ rfl⟩
def Inv.fresh(I:Inv X PN σ H s):H s.heap.objs.size=none:=I.hok.fresh (Qd _)
def Inv.lstM(I:Inv X PN σ H s)(a:H l=↥xs):xs.length<=sizeLine/\∃(PU:List Value) (n:Nat),Vals xs PU/\xs.length=PU.length/\s.heap.get? l=some {cls:=.type "list",data:=.seq PU.toArray n}:=by
 obtain⟨z,PU,n,r,e⟩:=I.hok l _ a;exact⟨z,PU,n,r,r.length,e⟩
def Cf{n:Nat}(h:n<=sizeLine):Builtin.List.listTooLong n=false:=by
 unfold Builtin.List.listTooLong;exact P3 #[0]
end
section
variable{X:Cx}
def JM:V->List V->Hp->VK->Prop:=λx vs H Q=>∃ l a y,x=.ref l/\vs=[y]/\H l=↥a/\a.length<sizeLine/\Q .non (upd H l (.lst (a++[y])))
def AT:MtM X "list.append" JM:=by
 intro m s σ H x vs v k Q I f c h;obtain⟨l,j,y,rfl,rfl,b,g,q⟩:=h;cases f;obtain⟨u,rfl,d⟩:=c.one;obtain⟨z,a,n,r,i,e⟩:=I.lstM b;refine RW F.slot_list_append ⟨_,e,rfl⟩ F.entry_list_append (F.args_list_append_2 _ _) (PySem.list_append l a.toArray n u (by rw[Ql];omega)) ⟨e,?_⟩;refine⟨.non,_,I.lset (its':=a++[u]) b e (by simp) (r.append (.cons d .nil)) ?_,rfl,q⟩;rw[Qn,T5];omega
def JN:V->List V->Hp->VK->Prop:=λx vs H Q=>∃ l b c a,x=.ref l/\vs=[.ref b]/\H l=↥c/\H b=↥a/\c.length+a.length<=sizeLine/\Q .non (upd H l (.lst (c++a)))
def G0:MtM X "list.extend" JN:=by
 intro A s σ H x vs v w Q I k o h;obtain⟨l,b,D,E,rfl,rfl,g,t,C,q⟩:=h;cases k;obtain⟨u,rfl,j⟩:=o.one;cases j;obtain⟨z,d,n,r,y,e⟩:=I.lstM g;obtain⟨B,a,m,i,p,e2⟩:=I.lstM t;have f:d.toArray.size+a.toArray.size<=sizeLine:=by rw[Ql,Ql];omega
 have c:¬ (!d.toArray.isEmpty&&Builtin.List.listTooLong (d.toArray.size+a.toArray.size))=true:=by
  rw[Cf f,Te];exact P7
 refine RW F.slot_list_extend ⟨_,e,rfl⟩ F.entry_list_extend (F.args_list_extend_2 _ _)
  (AutoSeq1.list_extend_list_list_0 l d.toArray n b a.toArray m c (by rw[Ql];omega) #[0]) ⟨e,e2,?_⟩
 refine⟨.non,_,I.lset (its':=d++a) g e (by simp) (r.append i) ?_,rfl,q⟩;rw[Qn];omega
def rPop:V->List V->Hp->VK->Prop:=λx vs H Q=>∃ l a y,x=.ref l/\vs=[]/\H l=↥a/\a[a.length-1]? =some y/\Q y (upd H l (.lst a.dropLast))
def KW:MtM X "list.pop" rPop:=by
 intro t s σ H x vs v p Q I k f h;obtain⟨l,o,y,rfl,rfl,d,g,q⟩:=h;cases k;have b:=f.zero;subst b;obtain⟨z,a,n,r,i,e⟩:=I.lstM d;obtain⟨u,m,j⟩:=r.get g
 have c:a.toArray[a.toArray.size-1]? =some u:=by
  show a.toArray[a.length-1]? =some u;rw[← SD,← i];exact m
 refine RW F.slot_list_pop ⟨_,e,rfl⟩ F.entry_list_pop (F.args_list_pop_1 _) (MeetsSeq.list_pop_last l a.toArray n u c (by rw[Ql];omega)) ⟨e,?_⟩;refine⟨y,_,I.lset (its':=a.dropLast) d e ?_ r.dropLast ?_,j,q⟩
 . show a.toArray.eraseIdxIfInBounds (a.toArray.size-1)=a.dropLast.toArray;rw[Ql,SA,FK]
 . rw[RO];omega
def KY:V->List V->Hp->VK->Prop:=λx vs H Q=>∃ l a i k y,x=.ref l/\vs=[.int i]/\H l=↥a/\ -(2^63)<=i/\i<2^63/\seqIndex? i a.length=some k/\a[k]? =some y/\Q y (upd H l (.lst (a.eraseIdx k)))
def IH:MtM X "list.pop" KY:=by
 intro C s σ H x vs v B Q I A d h;obtain⟨l,p,i,k,y,rfl,rfl,c,h1,h2,m,f,q⟩:=h;cases A;obtain⟨u,rfl,o⟩:=d.one;obtain⟨t,rfl⟩:=o;obtain⟨z,a,n,r,j,e⟩:=I.lstM c;obtain⟨w,g,b⟩:=r.get f
 refine RW F.slot_list_pop ⟨_,e,rfl⟩ F.entry_list_pop (F.args_list_pop_2 _ _)
  (MeetsSeq.list_pop_at l a.toArray n i t k w (fitsIndex_both h1 h2) (by rw[Ql,← j];exact m) (by rw[← SD];exact g) (by rw[Ql];omega)) ⟨e,?_⟩
 refine⟨y,_,I.lset (its':=a.eraseIdx k) c e ?_ (r.eraseIdx k) ?_,b,q⟩
 . show a.toArray.eraseIdxIfInBounds k=(a.eraseIdx k).toArray;rw[SA]
 . have:=AR p k;omega
def rCat:R2:=λx y H Q=>∃ l b c a,x=.ref l/\y=.ref b/\H l=↥c/\H b=↥a/\c.length+a.length<=sizeLine/\∀ p,H p=none->Q (.ref p) (upd H p (.lst (c++a)))
def KZ:OpR X (binaryOp .Add) rCat:=by
 intro C s σ H x y v u Q I k d h;obtain⟨l,b,w,B,rfl,rfl,i,m,p,q⟩:=h;cases k;cases d;obtain⟨z,c,n,r,t,e⟩:=I.lstM i;obtain⟨o,a,A,f,j,e2⟩:=I.lstM m;refine PySem.P.add_list e e2 ?_ (by rw[Ql,Ql];omega);have g:c.toArray++a.toArray=(c++a).toArray:=by simp
 rw[g];exact⟨.ref _,_,I.lnew (t':=s.toks) (r.append f) (by rw[Qn];omega),rfl,q _ I.fresh⟩
def rRep:R2:=λx y H Q=>∃ l k a,x=.ref l/\y=.int k/\H l=↥a/\ -(2^63)<=k/\k<2^63/\a.length*k.toNat<=sizeLine/\
 ∀ p,H p=none->Q (.ref p) (upd H p (.lst (List.replicate k.toNat a).flatten))
theorem JO{α:Type}(xs:List α)(k:Nat):(List.replicate k xs).flatten.length=k*xs.length:=by
 induction k with
 | zero=>simp
 | succ k a=>rw[RX,Sw,Qn,a,Ug,Nat.add_comm]
def K0:OpR X (binaryOp .Mult) rRep:=by
 intro J s σ H x y v u Q I D p h;obtain⟨l,k,G,rfl,rfl,w,h1,h2,o,q⟩:=h;cases D;obtain⟨t,rfl⟩:=p;obtain⟨z,b,n,r,B,e⟩:=I.lstM w;have E:b.toArray.size*k.toNat<=sizeLine:=by rw[Ql,← B];exact o
 have d:¬ b.toArray.size*k.toNat > (2^63-1)/8:=by
  have:(sizeLine:Nat)<=(2^63-1)/8:=by decide
  omega
 have g:¬ (!Builtin.List.listFitsIndex k)=true:=by
  rw[fitsIndex_both h1 h2];exact P7
 have c:¬ Builtin.List.listTooLong (b.toArray.size*k.toNat)=true:=by
  rw[Cf E];exact P7
 have f:List.foldl (λi j=>i++j) #[] (List.replicate (if b.toArray.isEmpty=true then 0 else k.toNat) b.toArray)=(List.replicate k.toNat b).flatten.toArray:=by
  have C:∀ m:Nat,List.foldl (λi j=>i++j) #[] (List.replicate m b.toArray)=(List.replicate m b).flatten.toArray:=λm=>by
   have:=AS b m [];rw[List.nil_append]at this;exact this
  rw[C]
  cases b with
  | nil=>simp
  | cons a K=>rw[Qp (by simp)]
 refine wpAny_binaryOp_repeat_ref (T:="list") (U:="int") #[1] ⟨_,e,rfl⟩ (λA=>typeIs_int A k t) noFill_list_mul F.fills_int_mul F.slot_int_rmul repeat_list F.slot_int_index.lookup
  (RW F.slot_int_rmul (typeIs_int s k t) F.entry_int_rmul (F.args_int_rmul_2 _ _) (int___rmul___int_list k t l b.toArray n)
   ⟨e,rfl,⟨_,e,rfl⟩,RW F.slot_list_mul ⟨_,e,rfl⟩ F.entry_list_mul (F.args_list_mul_2 _ _) (AutoListH.list___mul___list_int_3 l b.toArray n k t g d c) ⟨e,?_⟩⟩)
 rw[f];exact⟨.ref _,_,I.lnew (t':=s.toks) (r.rep k.toNat) (by rw[JO,Nat.mul_comm];exact o),rfl,q _ I.fresh⟩
end
end L2
namespace Att
open PySem PySem.W PySem.Calls PyProof.Rows
theorem ints_of_wellAll{P:Params}{h:Heap}:∀(ns:∅) (vs:List Value),WellAll P h vs (ns.map WData.int)->IntsAre vs ns:=by
 intro ns
 induction ns with
 | nil=>
  intro vs w;rw[List.map_nil]at w;cases w;exact .nil
 | cons n ns c=>
  intro vs w;rw[List.map_cons]at w
  cases w with
  | cons a b=>
   cases a;exact .cons _ _ (c _ b)
theorem script_of {l:OpenLaw} {n:Nat} (m:l.most=some n) {P:Params} {h:Heap} {args:List WData} {b:List Value}
  (c:l.row.toRowW.claim.pre args=true) (f:WellAll P h b args):
  ∃ a vs ns,b=[Value.ref a]/\args=[WData.list (ns.map WData.int)]/\h.get? a=some {cls:=.type "list",data:=.seq vs.toArray}/\IntsAre vs ns/\ns.length<=n:=by
 have g:WShape.hasAll [] args [.list .int]=true:=(pre_splitW c).1;have i:l.pre.holds [] {args:=args}=true:=(pre_splitW c).2;obtain⟨d,r,rfl,h1,h2⟩:=hasAllW_cons g;obtain rfl:=hasAllW_nil h2;obtain⟨t,rfl,h3⟩:=hasW_list h1;obtain⟨ns,rfl⟩:=items_int h3
 have p:ns.length<=n:=by
  unfold OpenLaw.pre at i
  have h4:(WTm.not (.lt (.lit (.int (n:Int))) (.len (.arg 0)))).holds [] {args:=[.list (ns.map .int)]}=true:=by
   have h4:=(holds_andW i).1;rw[m]at h4;exact h4
  have h5:=condW_of h4 (w_not (w_lt w_lit (w_len_list (w_arg rfl))));rw[List.length_map]at h5;refine Nat.le_of_not_lt λq=>?_;have j:(n:Int) < ((ns.length:Nat):Int):=by omega
  first
   | (rw[decide_eq_true j]at h5;exact absurd h5 #[1])
   | (simp at h5;omega)
 cases f with
 | cons s o=>
  cases o
  cases s with
  | list k e=>exact⟨_,_,ns,rfl,rfl,k,ints_of_wellAll ns _ e,p⟩
def post_true(l:OpenLaw)(args:List WData):l.row.toRowW.claim.post args (.bool true) args=true:=
 postW_of (r:=l.row.toRowW) (X:=(true==true))
  (show WShape.has [] (.bool true) .bool=true by first | rfl | decide | simp[WShape.has,WShape.arms,WShape.armsAll])
  (show(WTm.eq .res (.lit (.bool true))).value [] {args:=args,res:=some (.bool true),after:=args}=some (.bool (true==true)) from w_eq_bool (w_res rfl) w_lit) rfl
def attach_call {l:OpenLaw} {n:Nat} {q:Program} {c:List Str} {F:(Str->Option Value)->Heap->Prop} {D:World->Heap->Prop} {d:DefRec}
  (K:l.most=some n) (t:d.params.defaults=[])
  (h:∀(w:World) (u b:Shared) (p y:Str->Option Value) (k:Addr) (o:Obj) (x m g:Value) (a:Addr) (vs:List Value) (ns:∅),
   Ground q c [] F w u p y b.heap->D w b.heap->
   b.heap.get? k=some o->o.data=.func (docDef d.name d.params d.body d.scope x m g)->b.heap.CodeRec m d.name->p d.name=↑k->
   b.heap.get? a=some {cls:=.type "list",data:=.seq vs.toArray}->IntsAre vs ns->ns.length<=n->b.gens=#[]->
   codeAny (model l.prog w) callerA (.call (.ref k) ⟨[.ref a],[]⟩) (λr s'=>r=.ok (.ret (.bool true))/\OldK b.heap s'.heap/\s'.os=b.os/\AllBare s'.gens) b):
  WalkO q c F D l.row.toRowW d [] (λf vs=>PySem.call f vs):=by
 intro w u b p y G Y k o x m g M I O P z C v H B E S i A R s Q;obtain rfl:M=.none:=Dflts.none C t;obtain rfl:I=.none:=Dflts.noKw C;obtain⟨a,vs,ns,rfl,rfl,j,e,J⟩:=script_of K i s;refine enter_call (codeAny_mono (h w u b p y k o x m g a vs ns G Y O (fd_plain P) z v j e J H) λr s' N=>?_);obtain⟨rfl,h2,h3,h4⟩:=N;exact⟨.inl ⟨.bool true,.bool true,[],rfl,λ_=>rfl,.bool true,post_true l _,λ_=>⟨List.Pairwise.nil,λ_ L=>(nomatch L)⟩⟩,h2,h3,h4⟩
section
variable{prog:Program}{w:World}{A:Around}{E:Value->Shared->Prop}{s:Shared}{K:Frag}
end
end Att
namespace L2
open PySem PySem.Spec PyProof.Rows
theorem uf:∀{vs:List Value} {ns:∅},IntsAre vs ns->Vals (ns.map V.int) vs
 | _,_,.nil=>.nil
 | _,_,.cons n t h=>.cons ⟨t,rfl⟩ (uf h)
def Only(H:Hp):Prop:=∀ b,H b=none\/∃ o a,H b=some (.frz o (.lst a))
theorem II {P:Program} {w:World} {K:Frag} {I T:Str->Option Value} {CX:CXT} {k:Nat} {R a:Addr} {fd:FuncData} {x:Str} {sp:Sp} {c:Shared} {vs:List Value} {ns:∅}
  (KX:K.In c.heap) (t:c.heap.Ns mainGlobals I) (g:c.heap.Ns builtinsNs T) (Q:∀ x:Str,x≠"__name__"->T x=bootBuiltins x) (C:c.heap.NoLimit) (hg:c.gens=#[])
  (L:c.heap.get? a=some {cls:=.type "list",data:=.seq vs.toArray}) (W:IntsAre vs ns) (hl:ns.length<=sizeLine) (hr:Room k callerA)
  (F:∀ base:Heap,K.In base->base.Ns mainGlobals I->FnOk P w K I base CX k R fd [x] sp) (l:∀(s:Shared) (u:Value),BindsTo s fd ⟨[u],[]⟩ [(x,u)])
  (N:∀ H:Hp,Only H->SqL K H a (ns.map V.int)->sp [.ref a] H (λv _=>v=.bl true) λ_ _ _=>False)
  (M:∀ H e s',CX [] H c (λ_ _ _=>False) e s'->False):
  codeAny (model P w) callerA (.call (.ref R) ⟨[.ref a],[]⟩) (λr s'=>r=.ok (.ret (.bool true))/\OldK c.heap s'.heap/\s'.os=c.os/\AllBare s'.gens) c:=by
 have Y:=uf W;have p:=W.length
 have j:∀ H:Hp,Only H->SqL K H a (ns.map V.int)->HOk P w H c.heap->(∀ b,H b≠none->b=a)->(H a≠none->K.lookup a=none)->
   codeAny (model P w) callerA (.call (.ref R) ⟨[.ref a],[]⟩) (λr s'=>r=.ok (.ret (.bool true))/\OldK c.heap s'.heap/\s'.os=c.os/\AllBare s'.gens) c:=by
  intro H X hS E hA hK;have f:∀{b:Addr} {o:Obj},c.heap.get? b=some o->H b=none->(hidT c.heap H).get? b=some o:=λe n=>IC e n
  have U:∀{b:Addr} {o:Obj} {G:Array DictEntry} {A:Nat},c.heap.get? b=some o->o.data=.dict G A->H b=none:=λ{b o G A} e d=>by
   cases q:H b with
   | none=>rfl
   | some u=>
    have O:b=a:=hA b (by rw[q];simp);subst O;rw[L]at e;cases e;have d':Data.seq vs.toArray _=Data.dict G A:=d;cases d'
  have i:∀{b:Addr} {m:Str->Option Value},c.heap.Ns b m->(hidT c.heap H).Ns b m:=λ{b m} ⟨o,G,A,e,d,r⟩=>⟨o,G,A,f e (U e d),d,r⟩
  have y:K.In (hidT c.heap H):=λb o e=>f (KX b o e) (by
   cases q:H b with
   | none=>rfl
   | some u=>
    have O:b=a:=hA b (by rw[q];simp);subst O;rw[hK (by rw[q];simp)]at e;cases e)
  have hM:Mod K I (hidT c.heap H):=⟨y,i t,⟨T,i g,Q⟩,let ⟨mc,h1,h2⟩:=C;⟨mc,i h1,h2⟩⟩;have e0:Env0 P w K I (hidT c.heap H) callerA [] c H:=⟨rfl,hM,λb o e=>JE e,Nat.le_of_eq (GM _ _),trivial,λb g=>absurd (show b∈([]:List Addr) from g) (by simp),E,.of_eq hg⟩;refine S5 ((F _ y (i t)).run callerA [] c H ⟨[.ref a],[]⟩ [.ref a] [.ref a] _ _ hr e0 (l c (.ref a)) (.cons rfl .nil) (N H X hS)) λr s' h=>?_
  cases r with
  | error e=>exact(M H e s' h).elim
  | ok fl=>
   cases fl with
   | next=>exact False.elim h
   | brk=>exact False.elim h
   | cont=>exact False.elim h
   | ret u=>
    obtain⟨v,H',os,D,Z,B,r',q⟩:=h;have q':v=.bl true:=q;subst q';obtain rfl:u=Value.bool true:=r';refine⟨rfl,OldK.of_keep λb o e=>?_,os,D⟩
    cases q:H b with
    | none=>exact Z.keep b o e q (by intro z;exact absurd (show b∈([]:List Addr) from z) (by simp)) (by simp)
    | some u=>
     rcases X b with z | ⟨ob,xs,z⟩
     . rw[q]at z;cases z
     . have z2:=Z.frzs b ob _ z;obtain⟨e1,_⟩:=E b _ z;obtain⟨e2,_⟩:=B b _ z2;rw[e]at e1;cases e1;exact e2
 cases S:K.lookup a with
 | some o=>
  have e:=KX a o S;rw[L]at e;cases e;refine j (λ_=>none) (λ_=>.inl rfl) (.inr ⟨_,vs.toArray,_,S,rfl,rfl,rfl,by rw[Ql,p];exact hl,by simpa using Y⟩) (λb u z=>by have J:(none:Option HO)=some u:=z;cases J) (λb z=>absurd rfl z) λz=>absurd rfl z
 | none=>
  refine j (λb=>if b=a then some (.frz {cls:=.type "list",data:=.seq vs.toArray} (.lst (ns.map V.int))) else none) (λb=>?_) (.inl (.inr ⟨{cls:=.type "list",data:=.seq vs.toArray},Qt rfl⟩)) (λb u z=>?_) (λb z=>?_) λ_=>S
  . by_cases g:b=a
    . exact .inr ⟨_,_,Qt g⟩
    . exact .inl (Qp g)
  . by_cases g:b=a
    . have J:=(Qt g).symm.trans z;cases J;subst g;exact⟨L,by rw[P0];exact hl,vs,_,Y,L⟩
    . have J:=(Qp g).symm.trans z;cases J
  . by_cases g:b=a
    . exact g
    . exact absurd (Qp g) z
def JP {l:PySem.W.OpenLaw} {n k:Nat} {q:Program} {c:List Str} {R:(Str->Option Value)->Heap->Prop} {D:World->Heap->Prop} {d:DefRec} {K:Params->Frag} {CX:World->CXT} {sp:World->Sp} {x:Str}
  (P:l.most=some n) (y:n<=sizeLine) (z:d.params.defaults=[]) (U:Room k callerA)
  (X:∀(w:World) (h:Heap),D w h->(K w.params).In h)
  (F:∀(w:World) (j:Str->Option Value) (p:Addr) (h:Heap),(K w.params).In h->h.Ns mainGlobals j->j d.name=↑p->
   ∃ B:FuncData,(∀(s:Shared) (u:Value),BindsTo s B ⟨[u],[]⟩ [(x,u)])/\
    ∀ base:Heap,(K w.params).In base->base.Ns mainGlobals j->FnOk l.prog w (K w.params) j base (CX w) k p B [x] (sp w))
  (t:∀(w:World) (H:Hp) (a:Addr) (ns:∅),ns.length<=n->Only H->SqL (K w.params) H a (ns.map V.int)->sp w [.ref a] H (λv _=>v=.bl true) λ_ _ _=>False)
  (r:∀(w:World) (H:Hp) (s:Shared) (e:Value) (s':Shared),CX w [] H s (λ_ _ _=>False) e s'->False):
  PySem.W.WalkO q c R D l.row.toRowW d [] (λf vs=>PySem.call f vs):=by
 refine Att.attach_call P z λw s₀ M j mb p o pm Z Q a vs ns G Y ho hd S A m i C I=>?_;have E:=X w _ Y;obtain⟨B,O,L⟩:=F w j p _ E G.T.g A;exact II E G.T.g G.T.b G.T.builtins G.T.nolimit I m i (Qa C y) U L O (λH J N=>t w H a ns C J N) λH e s'=>r w H M e s'
def dW(s:Stmt):Arguments:=match s with
 | .FunctionDef _ a _ _ _ _ _ _ _ _=>a
 | _=>{posonlyargs:=[],args:=[],vararg:=none,kwonlyargs:=[],kw_defaults:=[],kwarg:=none,defaults:=[]}
def cN(s:Stmt):List Stmt:=match s with
 | .FunctionDef _ _ b _ _ _ _ _ _ _=>b
 | _=>[]
def aZ(s:Stmt):Scope:=match s with
 | .FunctionDef _ _ _ _ _ _ a _ _ _=>a
 | _=>{kind:=.function,names:=[],isGenerator:=false,isCoroutine:=false}
abbrev CX0:CXT:=λ_ _ _ _ _ _=>False
abbrev E0:XK:=λ_ _ _=>False
def B0{X:Cx}:uc CX0 X E0:=λ_ _ _ _ _ _ _ h=>h.elim
structure Fun(K:Frag)(x qual:Str)(st:Stmt)(f:Addr)(fd:FuncData):Prop where
 ex:∃(oc:Value) (od:Option Addr) (kV doc pm:Value) (an:Option Addr) (PQ ct:Value) (osl:Array (Option Value)),
  fd=fnOf x qual (dW st) (cN st) (aZ st) .none kV doc pm an PQ ct/\K.lookup f=some ⟨oc,od,.func fd,osl⟩/\codeIn K PQ qual=true
 kp:keepIn K (.ref f)=true
section
variable{P:Program}{w:World}{K:Frag}{mg:Str->Option Value}{base:Heap}
def Fun.ok {x b:Str} {st:Stmt} {f:Addr} {j:FuncData} {N g:List Str} {k:Nat} {sp:Sp} (F:Fun K x b st f j) (S:ki N g (aZ st)) (len:∀ vs H Q E,sp vs H Q E->vs.length=g.length)
  (c:∀(d:Value) (A:Around) (a:List Env) (s:Shared) (H:Hp) (vs:List V) (Q:VK) (E:XK),Room k (A.deeper (envOfC b (aZ st) s.heap.objs.size f d))->sp vs H Q E->
   ∃ t,PSs (cxOf CX0 P w K mg base N b (aZ st) f d A a s H E).nox (cN st) t/\t {nx:=λ_ p=>Q .non p,rt:=Q} (start N vs) H):FnOk P w K mg base CX0 (k+1) f j g sp:=by
 obtain⟨B,u,r,n,z,y,d,v,m,rfl,l,i⟩:=F.ex;refine Ju l i S len λA a s H vs Q E o e=>?_;obtain⟨t,h,q⟩:=c d A a s H vs Q E o e;exact⟨t,h.nox,q⟩
def Fun.binds {x a:Str} {st:Stmt} {f:Addr} {j:FuncData} {g:List Str} (F:Fun K x a st f j)
  (h:∀(e b d:Value) (i:Option Addr) (c ct:Value) (us:List Value),us.length=g.length->bindArgs (fnOf x a (dW st) (cN st) (aZ st) .none e b d i c ct) ⟨us,[]⟩=pure (g.zip us)):Binds K j g []:=by
 obtain⟨n,o,e,b,d,i,c,ct,k,rfl,m,l⟩:=F.ex;exact .all (h e b d i c ct)
def Cg {x a:Str} {st:Stmt} {f:Addr} {j:Value} {m i:Option Addr} {d:Array (Option Value)} {h b g e ct:Value} (l:K.lookup f=some ⟨j,m,.func (fnOf x a (dW st) (cN st) (aZ st) .none h b g i e ct),d⟩)
  (c:codeIn K e a=true) (k:keepIn K (.ref f)=true):Fun K x a st f (fnOf x a (dW st) (cN st) (aZ st) .none h b g i e ct):=⟨⟨j,m,h,b,g,i,e,ct,d,rfl,l,c⟩,k⟩
end
def aL{n:Nat}(h:n<=1000):n<sizeLine:=Rn h #[1]
section
variable{X:Cx}
def pv (i:Nat) {x:Str} {pos:Pos} (c:X.N[i]? =some x:=by rfl) (d:Vis X.env.scope x:=by first | exact Or.inl rfl | exact Or.inr (Or.inl rfl) | exact Or.inr (Or.inr rfl)) (b:(x==("__debug__":Str))=false:=by decide)
  (a:(x==("__classdict__":Str))=false:=by decide):PE X (.Name x pos) (tVar i):=KI c d b a
end
def iteF{A B:Prop}(h:B):if false=true then A else B:=by
 rw[Qp P7];exact h
def iteT{A B:Prop}(h:A):if true=true then A else B:=by
 rw[Qt rfl];exact h
def Same(H a:Hp):Prop:=∀ b o,H b=some o->a b=some o
def Same.refl(H:Hp):Same H H:=λ_ _ h=>h
abbrev P2:=@Same.refl
def Same.trans{H e d:Hp}(a:Same H e)(b:Same e d):Same H d:=λc o h=>b c o (a c o h)
theorem Same.free{H a:Hp}(e:Same H a){l:Addr}(h:a l=Option.none):H l=Option.none:=by
 cases q:H l with
 | none=>rfl
 | some o=>
  rw[e l o q]at h;cases h
def Same.seq{K:Frag}{H b:Hp}{a:Addr}{xs:List V}(e:Same H b)(h:SqL K H a xs):SqL K b a xs:=by
 rcases h with (h | ⟨o,h⟩) | h
 . exact .inl (.inl (e _ _ h))
 . exact .inl (.inr ⟨o,e _ _ h⟩)
 . exact .inr h
section
variable{κ:Type}[DecidableEq κ]
def valV(a:List (κ × V))(k:κ):Option V:=(a.find? λb=>decide (b.1=k)).map (·.2)
def putK(b:List (κ × V))(k:κ)(v:V):List (κ × V):=
 if (b.any λa=>decide (a.1=k))=true then b.map (λa=>if a.1=k then(a.1,v) else a) else b++[(k,v)]
def xg{p:κ × V}{r:List (κ × V)}{k:κ}(e:p.1=k):valV (p::r) k=some p.2:=by simp[valV,RJ,e]
def xh{p:κ × V}{r:List (κ × V)}{k:κ}(e:¬ p.1=k):valV (p::r) k=valV r k:=by simp[valV,RJ,e]
theorem Ch(k:κ):∀ a:List (κ × V),(a.any λb=>decide (b.1=k))=(valV a k).isSome
 | []=>rfl
 | p::r=>by
  rw[Sc];by_cases e:p.1=k
  . simp only[xg e,P4 e,Sy,Option.isSome_some]
  . rw[xh e,P3 e,Rq];exact Ch k r
def wy(a:List (κ × V))(k:κ)(v:V):(putK a k v).length<=a.length+1:=by
 unfold putK
 split
 . rw[P0];omega
 . rw[Qn,QC,TW];omega
theorem RelO.isSome_eq{o:Option V}{u:Option Value}(r:RelO o u):o.isSome=u.isSome:=by
 cases o with
 | none=>cases u with
  | none=>rfl
  | some _=>exact(show False from r).elim
 | some _=>cases u with
  | none=>exact(show False from r).elim
  | some _=>rfl
theorem KV.val{d:List (κ × V)}{vs:List (κ × Value)}(r:KV d vs)(k:κ):RelO (valV d k) (valueAt vs k):=by
 unfold KV at r
 induction r with
 | nil=>exact True.intro
 | @cons p q g a h t f=>
  obtain⟨h1,h2⟩:=h;by_cases e:p.1=k
  . have c:q.1=k:=h1.symm.trans e;have b:valueAt (q::a) k=some q.2:=by simp[valueAt,RJ,c]
    rw[xg e,b];exact h2
  . have c:¬ q.1=k:=λz=>e (h1.trans z);have b:valueAt (q::a) k=valueAt a k:=by simp[valueAt,RJ,c]
    rw[xh e,b];exact f
theorem KV.any{b:List (κ × V)}{vs:List (κ × Value)}(r:KV b vs)(k:κ):(b.any λa=>decide (a.1=k))=vs.any λa=>decide (a.1=k):=by
 unfold KV at r
 induction r with
 | nil=>rfl
 | cons h t c=>rw[Sc,Sc,c,h.1]
theorem KV.repl{b:List (κ × V)}{vs:List (κ × Value)}(r:KV b vs)(k:κ){y:V}{u:Value}(c:RelV y u):
  KV (b.map λa=>if a.1=k then(a.1,y) else a) (vs.map λa=>if a.1=k then(a.1,u) else a):=by
 unfold KV at r ⊢
 induction r with
 | nil=>exact .nil
 | @cons p q g f h t d=>
  rw[QJ,QJ];refine .cons ?_ d;obtain⟨h1,h2⟩:=h;by_cases e:p.1=k
  . rw[Qt e,Qt (h1.symm.trans e)];exact⟨h1,c⟩
  . rw[Qp e,Qp (λz=>e (h1.trans z))];exact⟨h1,h2⟩
def KV.put{b:List (κ × V)}{vs:List (κ × Value)}(r:KV b vs)(k:κ){y:V}{u:Value}(a:RelV y u):KV (putK b k y) (stored vs k u):=by
 unfold putK stored;rw[r.any k];by_cases e:(vs.any λc=>decide (c.1=k))=true
 . rw[Qt e,Qt e];exact r.repl k a
 . rw[Qp e,Qp e];exact Paired.snoc r ⟨rfl,a⟩
def KV.length{a:List (κ × V)}{vs:List (κ × Value)}(r:KV a vs):a.length=vs.length:=T9 r
end
theorem yk{P:Program}{w:World}{k:Key}{u:Value}(r:RelV (kV k) u):(dQ P w).is k u=true:=by
 cases k with
 | inl i=>obtain⟨t,e⟩:=(show ∃ t,u=Value.int i t from r);subst e;exact Eg P w i t
 | inr x=>obtain⟨t,e⟩:=(show ∃ t,u=Value.str x t from r);subst e;exact Eh P w x t
theorem AU{P:Program}{w:World}:∀{a:List Key} {us:List Value},Vals (a.map kV) us->ItemsAre (dQ P w) a us
 | [],_,r=>by rw[List.map_nil]at r;cases r;exact .nil
 | k::a,_,r=>by
  rw[QJ]at r
  cases r with
  | cons h t=>exact .cons (yk h) (AU t)
abbrev KT(H:Hp):List (List Key × V)->List (List Key × Addr × Value)->Prop:=Paired λp q=>p.1=q.1/\H q.2.1=some (.tup (p.1.map kV))/\RelV p.2 q.2.2
variable{H:Hp}{PR:List (List Key × V)}{xs:List (List Key × Addr × Value)}
theorem KT.val(r:KT H PR xs)(k:List Key):RelO (valV PR k) ((atKey xs k).map (·.2)):=by
 induction r with
 | nil=>exact True.intro
 | @cons p q f a h t d=>
  obtain⟨h1,_,h2⟩:=h;by_cases e:p.1=k
  . have c:q.1=k:=h1.symm.trans e;have b:atKey (q::a) k=some q.2:=by simp[atKey,RJ,c]
    rw[xg e,b];exact h2
  . have c:¬ q.1=k:=λz=>e (h1.trans z);have b:atKey (q::a) k=atKey a k:=by simp[atKey,RJ,c]
    rw[xh e,b];exact d
theorem KT.repl(r:KT H PR xs)(k:List Key){y:V}{u:Value}(b:RelV y u):
  KT H (PR.map λa=>if a.1=k then(a.1,y) else a) (xs.map (putAt k u)):=by
 induction r with
 | nil=>exact .nil
 | @cons p q f d h t c=>
  rw[QJ,QJ];refine .cons ?_ c;obtain⟨h1,h2,h3⟩:=h;unfold putAt;by_cases e:p.1=k
  . rw[Qt e,Qt (h1.symm.trans e)];exact⟨h1,h2,b⟩
  . rw[Qp e,Qp (λz=>e (h1.trans z))];exact⟨h1,h2,h3⟩
def KT.put(r:KT H PR xs)(k:List Key){b:Addr}{y:V}{u:Value}(d:H b=some (.tup (k.map kV)))(a:RelV y u):
  KT H (putK PR k y) (storedH xs k b u):=by
 have e:(PR.any λc=>decide (c.1=k))=(atKey xs k).isSome:=by
  rw[Ch,(r.val k).isSome_eq,Tq]
 unfold putK storedH;rw[e];by_cases q:(atKey xs k).isSome=true
 . rw[Qt q,Qt q];exact r.repl k a
 . rw[Qp q,Qp q];exact Paired.snoc r ⟨rfl,d,a⟩
def KT.keeps{a:Hp}(r:KT H PR xs)(c:∀ b ys,H b=some (.tup ys)->a b=some (.tup ys)):KT a PR xs:=
 Paired.mapP r λ_ _ z=>⟨z.1,c _ _ z.2.1,z.2.2⟩
section
variable{P:Program}{w:World}{H:Hp}{h:Heap}{a:Addr}
def Jv{u:HO}(b:HOk P w H h)(e:Rd H a u):ObjOk P w H h a u:=e.ok b
def vL{PR:List (Key × V)}(b:HOk P w H h)(e:Rd H a (.dK PR)):PR.length<=sizeLine/\(a==sysModules)=false/\∃ vs,KV PR vs/\h.DictOf (dQ P w) a vs:=
 show ObjOk P w H h a (.dK PR) from Jv b e
def L4{PR:List (Key × V)}(b:HOk P w H h)(e:H a=some (.dK PR)):PR.length<=sizeLine/\(a==sysModules)=false/\∃ vs,KV PR vs/\h.DictOf (dQ P w) a vs:=vL b (.inl e)
def ug{b:List Key}(c:HOk P w H h)(e:H a=some (.tup (b.map kV))):(tupleKind (dQ P w)).is h b a:=by
 obtain⟨_,d,r,o,h1,h2,n,h3⟩:=(show ObjOk P w H h a (.tup (b.map kV)) from c a _ e);exact⟨o,d.toArray,n,h1,h2,h3,by simpa using AU r⟩
def yn{PR:List (List Key × V)}(f:HOk P w H h)(e:Rd H a (.dT PR)):PR.length<=sizeLine/\(a==sysModules)=false/\
  ∃ xs,KT H PR xs/\h.DictOfH (tupleKind (dQ P w)) a xs:=by
 obtain⟨z,y,xs,r,o,g,i,h1,h2,h3,h4,h5⟩:=(show ObjOk P w H h a (.dT PR) from Jv f e);refine⟨z,y,xs,r,o,g,i,h1,h2,h3,h4,λx b=>?_,h5⟩
 have c:∀{l:List (List Key × V)} {m:List (List Key × Addr × Value)},KT H l m->∀ x∈m,(tupleKind (dQ P w)).is h x.1 x.2.1:=by
  intro l m q
  induction q with
  | nil=>intro x b;exact nomatch b
  | @cons p q n k d t j=>
   intro x b;rcases Qs.mp b with e | b
   . subst e;exact ug f (by rw[← d.1];exact d.2.1)
   . exact j x b
 exact c r x b
def L5{PR:List (List Key × V)}(b:HOk P w H h)(e:H a=some (.dT PR)):PR.length<=sizeLine/\(a==sysModules)=false/\
  ∃ xs,KT H PR xs/\h.DictOfH (tupleKind (dQ P w)) a xs:=yn b (.inl e)
end
def DGet(H:Hp)(a:Addr)(y:V)(r:Option V):Prop:=
 (∃ PR k,Rd H a (.dK PR)/\y=kV k/\r=valV PR k)\/∃ PR k b,Rd H a (.dT PR)/\y=.ref b/\H b=some (.tup (k.map kV))/\r=valV PR k
def DPut(H:Hp)(a:Addr)(y v:V)(c:Hp):Prop:=
 (∃ PR k,H a=some (.dK PR)/\y=kV k/\PR.length<sizeLine/\c=upd H a (.dK (putK PR k v)))\/
 ∃ PR k b,H a=some (.dT PR)/\y=.ref b/\H b=some (.tup (k.map kV))/\PR.length<sizeLine/\c=upd H a (.dT (putK PR k v))
theorem DGet.k{a:Addr}{PR:List (Key × V)}{k:Key}(e:H a=some (.dK PR)):DGet H a (kV k) (valV PR k):=.inl ⟨PR,k,.inl e,rfl,rfl⟩
section
variable{X:Cx}{PN:List (Addr × Obj)}{σ:St}{H:Hp}{s:Shared}{a:Addr}{y v:V}{u r:Value}{o:Option V}{A:Around}{E:Value->Shared->Prop}
def G1{Q:Value->Shared->Prop}(t:A.units+1<cLine)(I:Inv X PN σ H s)(g:DGet H a y (some v))(q:RelV y u)(h:∀ f s',Inv X PN σ H s'->RelV v f->Q f s'):
  wpAny (model X.prog X.w) A (getItem (.ref a) u) Q E s:=by
 rcases g with ⟨PR,k,e,n,l⟩ | ⟨PR,k,b,e,n,x,l⟩
 . subst n;obtain⟨z,B,vs,d,i⟩:=vL I.hok e;obtain⟨f,j,c⟩:=Ue (v:=v) (o:=valueAt vs k) (by rw[l];exact d.val k);exact wpAny_getItem_of (yk q) i.mapOf j (h f _ (I.tok _) c)
 . subst n;cases (show u=Value.ref b from q);obtain⟨z,B,xs,d,i⟩:=yn I.hok e;obtain⟨f,j,c⟩:=Ue (v:=v) (o:=(atKey xs k).map (·.2)) (by rw[l];exact d.val k);obtain⟨p,r,m⟩:=RG.mp j;refine wpAny_getItem_heap (Sq t) (ug I.hok x) i r ?_;rw[m];exact h f _ (I.tok _) c
def Mn{Q:Value->Shared->Prop}(m:A.units+1<cLine)(I:Inv X PN σ H s)(g:DGet H a y o)(j:RelV y u)(h:∀ s',Inv X PN σ H s'->Q (.bool o.isSome) s'):
  wpAny (model X.prog X.w) A (compareOp .In u (.ref a)) Q E s:=by
 rcases g with ⟨PR,k,e,f,l⟩ | ⟨PR,k,b,e,f,n,l⟩
 . subst f;obtain⟨z,i,vs,c,d⟩:=vL I.hok e;refine wpAny_in_of (yk j) i d.mapOf ?_;rw[← (c.val k).isSome_eq,← l];exact h _ (I.tok _)
 . subst f;cases (show u=Value.ref b from j);obtain⟨z,i,xs,c,d⟩:=yn I.hok e;refine wpAny_in_heap (Sq m) (ug I.hok n) i d ?_;have q:=(c.val k).isSome_eq;rw[Tq]at q;rw[← q,← l];exact h _ (I.tok _)
def JQ{Q:Value->Shared->Prop}(m:A.units+1<cLine)(I:Inv X PN σ H s)(g:DGet H a y o)(j:RelV y u)(h:∀ s',Inv X PN σ H s'->Q (.bool (!o.isSome)) s'):
  wpAny (model X.prog X.w) A (compareOp .NotIn u (.ref a)) Q E s:=by
 rcases g with ⟨PR,k,e,f,l⟩ | ⟨PR,k,b,e,f,n,l⟩
 . subst f;obtain⟨z,i,vs,c,d⟩:=vL I.hok e;refine wpAny_notIn_of (yk j) i d.mapOf ?_;rw[← (c.val k).isSome_eq,← l];exact h _ (I.tok _)
 . subst f;cases (show u=Value.ref b from j);obtain⟨z,i,xs,c,d⟩:=yn I.hok e;refine wpAny_notIn_heap (Sq m) (ug I.hok n) i d ?_;have q:=(c.val k).isSome_eq;rw[Tq]at q;rw[← q,← l];exact h _ (I.tok _)
def EW{h':Heap}{t':Nat}{c:HO}(I:Inv X PN σ H s)(i:Mut (H a))(f:Heap.SameBut a s.heap h')(h:∃ q,h'.get? a=some q)(d:ObjOk X.prog X.w (upd H a c) h' a c):
  Inv X PN σ (upd H a c) {s with heap:=h',toks:=t'}:=
 I.write (x:=a) (e:=a) i (.inl rfl) (λb q g z=>(f.2 b g).trans z) h d
def K1{P:Program}{w:World}{c:Hp}{h':Heap}{PR:List (Key × V)}{vs:List (Key × Value)}(z:PR.length<=sizeLine)(d:(a==sysModules)=false)(b:KV PR vs)(e:h'.DictOf (dQ P w) a vs):
  ObjOk P w c h' a (.dK PR):=⟨z,d,vs,b,e⟩
def G2{J:Hp}{Q:Unit->Shared->Prop}(L:A.units+1<cLine)(I:Inv X PN σ H s)(g:DPut H a y v J)(D:RelV y u)(C:RelV v r)(h:∀ s',Inv X PN σ J s'->Q () s'):
  wpAny (model X.prog X.w) A (setItem (.ref a) u r) Q E s:=by
 rcases g with ⟨PR,k,e,x,l,m⟩ | ⟨PR,k,b,e,x,B,l,m⟩
 . subst x m;obtain⟨z,o,vs,d,j⟩:=L4 I.hok e;have t:vs.length<=sizeLine:=by rw[← d.length];exact z
   have n:(putK PR k v).length<=sizeLine:=by have:=wy PR k v;omega
   refine wpAny_setItem_pairs (hsz:=t) (yk D) j λG f p=>h _ ?_;have N:∃ q,G.get? a=some q:=let ⟨q,_,_,i,_⟩:=f;⟨q,i⟩;exact EW I (by rw[e];exact True.intro) p N (K1 n o (d.put k C) f)
 . subst x m;cases (show u=Value.ref b from D);obtain⟨z,o,xs,d,j⟩:=L5 I.hok e;have t:xs.length<=sizeLine:=by rw[← T9 d];exact z
   have n:(putK PR k v).length<=sizeLine:=by have:=wy PR k v;omega
   refine wpAny_setItem_heap (hsz:=t) (Sq L) (ug I.hok B) j λG f p=>h _ ?_;obtain⟨q,M,K,i,h2,h3,h4,_,h5⟩:=f;refine EW I (by rw[e];exact True.intro) p ⟨q,i⟩ ⟨n,o,_,(d.put k B C).keeps λc O F=>?_,q,M,K,i,h2,h3,h4,h5⟩;rw[ap (LW F e (λz=>nomatch z))];exact F
end
section
variable{X:Cx}{PN:List (Addr × Obj)}{σ:St}{H:Hp}{s:Shared}{a:Addr}{PR:List (Key × V)}{k:Key}{u:Value}{A:Around}{E:Value->Shared->Prop}
def L6{Q:Value->Shared->Prop}(I:Inv X PN σ H s)(e:Rd H a (.dK PR))(h:∀ t s',Inv X PN σ H s'->Q (.int PR.length t) s'):wpAny (model X.prog X.w) A (call (.builtin "len") [.ref a]) Q E s:=by
 obtain⟨z,c,vs,b,d⟩:=vL I.hok e;refine call_len_dict c d (by rw[← b.length];rw[To]at z;omega) ?_;rw[← b.length];exact h _ _ (I.tok _)
end
def Ek{X:Cx}{d:List (Addr × Obj)}{σ:St}{s:Shared}{a:Addr}{y:V}{o:Option V}(I:Inv X d σ H s)(g:DGet H a y o):s.TypeIs (.ref a) "dict":=by
 rcases g with ⟨PR,k,e,_,_⟩ | ⟨PR,k,b,e,_,_,_⟩
 . obtain⟨_,_,vs,_,c⟩:=vL I.hok e;exact c.typeIs
 . obtain⟨_,_,xs,_,c⟩:=yn I.hok e;exact c.typeIs
def sDPut(e h c:TE):TS:=λD σ H=>c σ H λv f=>e σ f λx d=>h σ d λy g=>∃ a b,x=.ref a/\DPut g a y v b/\D.nx σ b
def K2:TE:=λ_ H Q=>∀ p,H p=none->Q (.ref p) (upd H p (.dK []))
section
variable{X:Cx}
def G3:CallR X (.builtin "len") (λxs H Q=>∃ a PR,xs=[V.ref a]/\H a=some (.dK PR)/\Q (.int PR.length) H):=by
 intro g s σ H xs f Q I r h;obtain⟨a,PR,rfl,d,q⟩:=h;obtain⟨u,rfl,c⟩:=eP r;cases c;exact L6 I (.inl d) λt e b=>⟨.int PR.length,H,b,⟨t,rfl⟩,q⟩
end
theorem dX{α:Type}(x:Str):∀(a b:List (Str × α)),(a++b).lookup x=match a.lookup x with | some c=>some c | none=>b.lookup x
 | [],b=>rfl
 | (k,v)::r,b=>by
  rw[List.cons_append,Q5,Q5]
  cases x==k with
  | true=>rfl
  | false=>exact dX x r b
theorem mZ:∀(names:List (Str × NameKind)) (n:Nat) (a b:List (Str × Addr)),cellsFrom n names (a++b)=cellsFrom n names a++b
 | [],_,_,_=>rfl
 | (y,k)::r,n,a,b=>by
  unfold cellsFrom
  split
  . rw[← List.cons_append];exact mZ r _ _ b
  . exact mZ r _ _ b
theorem jI{x:Str}{c:Addr}:∀(names:List (Str × NameKind)) (n:Nat) (a:List (Str × Addr)),(x,c)∈cellsFrom n names a->(x,NameKind.cell)∈names\/(x,c)∈a
 | [],_,_,h=>.inr h
 | (y,k)::r,n,a,h=>by
  unfold cellsFrom at h
  split at h
  . rename_i b
    have b:k=.cell:=by simpa using b
    subst b;rcases jI r _ _ h with z | z
    . exact .inl (Qg _ z)
    . rcases Qs.mp z with z | z
      . cases z;exact .inl Qm
      . exact .inr z
  . rcases jI r _ _ h with z | z
    . exact .inl (Qg _ z)
    . exact .inr z
theorem sd {env:Env} (f:Str × NameKind->List (Str × Addr)->Sem (ForInStep (List (Str × Addr))))
  (n:∀ name kind cs,f (name,kind) cs=if kind==.free then(do let a ← cellOf env name;pure (.yield ((name,a)::cs))) else pure (.yield cs)):
  ∀(names:List (Str × NameKind)) (d:List (Str × Addr)),(∀ x,(x,NameKind.free)∈names->∃ c,env.cells.lookup x=some c)->(∀ x c,d.lookup x=some c->env.cells.lookup x=some c)->
   ∃ g,forIn names d f=(pure g:Sem _)/\(∀ x c,g.lookup x=some c->env.cells.lookup x=some c)/\(∀ x,((x,NameKind.free)∈names\/∃ c,d.lookup x=some c)->∃ c,g.lookup x=some c)
 | [],d,_,h2=>⟨d,rfl,h2,λx h=>h.elim (λz=>nomatch z) id⟩
 | (y,k)::r,d,h1,h2=>by
  rw[List.forIn_cons,n];by_cases j:(k==NameKind.free)=true
  . rw[Qt j];have m:k=.free:=by simpa using j
    subst m;obtain⟨c,p⟩:=h1 y Qm;have e:(cellOf env y:Sem Addr)=pure c:=by unfold cellOf;rw[p]
    rw[e]
    obtain⟨g,e1,e2,o⟩:=sd f n r ((y,c)::d) (λx b=>h1 x (Qg _ b)) (λx l b=>by
     rw[Q5]at b
     cases i:x==y with
     | true=>rw[i]at b;cases b;rw[RV.mp i];exact p
     | false=>rw[i]at b;exact h2 x l b)
    refine⟨g,?_,e2,λx b=>o x ?_⟩
    . exact e1
    . rcases b with b | ⟨l,b⟩
      . rcases Qs.mp b with z | z
        . cases z;exact .inr ⟨c,by rw[Q5];simp⟩
        . exact .inl z
      . cases i:x==y with
        | true=>exact .inr ⟨c,by rw[Q5,i]⟩
        | false=>exact .inr ⟨l,by rw[Q5,i];exact b⟩
  . rw[Qp j];obtain⟨g,e1,e2,o⟩:=sd f n r d (λx b=>h1 x (Qg _ b)) h2;refine⟨g,e1,e2,λx b=>o x ?_⟩;rcases b with b | b
    . rcases Qs.mp b with z | z
      . cases z;exact absurd rfl j
      . exact .inl z
    . exact .inr b
variable{scope:Scope}
def FL{env:Env}(h:∀ x,(x,NameKind.free)∈scope.names->∃ c,env.cells.lookup x=some c):
  ∃ d,closureFor scope env=pure d/\(∀ x c,d.lookup x=some c->env.cells.lookup x=some c)/\∀ x,(x,NameKind.free)∈scope.names->∃ c,d.lookup x=some c:=by
 obtain⟨d,e1,e2,f⟩:=sd (env:=env) (λx b=>match x with | (name,kind)=>if kind==.free then(do let a ← cellOf env name;pure (.yield ((name,a)::b))) else pure (.yield b)) (λ_ _ _=>rfl) scope.names [] h (λx c e=>nomatch e);refine⟨d,?_,e2,λx e=>f x (.inl e)⟩
 have:closureFor scope env=(forIn scope.names [] (λx b=>match x with | (name,kind)=>if kind==.free then(do let a ← cellOf env name;pure (.yield ((name,a)::b))) else pure (.yield b)) >>= λb=>pure b):=by
  simp only[closureFor]
 rw[this,e1];rfl
def G4(scope:Scope)(a:List (Str × Addr))(C:Addr)(env:Env):Env:=
 {newEnv scope C env.globals (cellsFrom (C+1) scope.names a) env.qual none .none (some env) builtinsNs with scope:=relabel scope env}
def IJ {M:Model} {A:Around} {E:Value->Shared->Prop} {s:Shared} {d:List (Str × Addr)} {env:Env} {Q:Env->Shared->Prop}
  (f:Q (newEnv scope s.heap.objs.size env.globals (cellsFrom (s.heap.objs.size+1) scope.names d) env.qual none .none (some env) builtinsNs) {s with heap:=pushCells (s.heap.push {cls:=.type "dict",data:=.dict #[]}) scope.names}):
  wpAny M A (newFunctionEnv scope env.globals d [] env.qual none .none (some env)) Q E s:=by
 simp only[newFunctionEnv,Option.isSome_some,Uf];refine Qq (wpAny_alloc ?_);refine Qq (wpAny_layCells _ (λe a c=>by cases b:a==NameKind.cell <;> simp[b]) _ _ _ _ ?_);rw[show({s with heap:=s.heap.push {cls:=.type "dict",data:=.dict #[]}}:Shared).heap.objs.size=s.heap.objs.size+1 from RY ..];refine Qq ?_;rw[List.forIn_nil];exact QN (QN f)
section
variable{prog:Program}{w:World}{A:Around}{E:Value->Shared->Prop}{R:Result->Shared->Prop}{s:Shared}
theorem G5 {f a d:Expr} {g:List Expr} {scope:Scope} {pos:Pos} {it i:Value} {env:Env} (I:Nat->Shared->Prop)
  (l:∀ n s,I n s->wpAny (model prog w) A (pyNext it) (λr o=>match r with
   | none=>R (.ok .next) o
   | some v=>wpAny (model prog w) A (letOwnedTupleGo a it v) (λ_ j=>wpAny (model prog w) A (assign a env v) (λ_ y=>
     wpAny (model prog w) A (forIn g true λc r=>if r=true then do let k ← isTrue c env (eval c env);pure (ForInStep.yield k) else pure (ForInStep.yield r)) (λk q=>
      if k=true then wpAny (model prog w) A (eval f env) (λx t=>
       wpAny (model prog w) A (call (.builtin "list.append") [i,x]) (λ_ B=>∃ m,m<n/\I m B) (notedBy (model prog w) A env λe s'=>R (.error e) s') t) (notedBy (model prog w) A env λe s'=>R (.error e) s') q
      else ∃ m,m<n/\I m q) (notedBy (model prog w) A env λe s'=>R (.error e) s') y) (notedBy (model prog w) A env λe s'=>R (.error e) s') j) (notedBy (model prog w) A env λe s'=>R (.error e) s') o) (notedBy (model prog w) A env λe s'=>R (.error e) s') s)
  (n:Nat) (h:I n s):
  codeAny (model prog w) A (.compLoop (.ListComp f [⟨a,d,g,0⟩] scope pos) 0 it i env) R s:=by
 refine codeAny_loop rfl I (λn s C=>?_) n h;show wpAny _ A ((compTurn (.ListComp f [⟨a,d,g,0⟩] scope pos) 0 it i env).onRaise (λx=>do noteFrame x env;theTreesLotGoes x)) _ _ s;refine wpAny_noted ?_;rw[compTurn_list];refine Qq (ST (Qq (QX (l n s C) (λr o z=>?_) λ_ _ b=>b)))
 cases r with
 | none=>exact QN z
 | some v=>
  refine Qq (QX z (λ_ j p=>?_) λ_ _ b=>b);refine Qq (QX p (λ_ y D=>Qq (QX D (λk q u=>?_) λ_ _ b=>b)) λ_ _ b=>b)
  cases k with
  | false=>exact QN ⟨rfl,u⟩
  | true=>
   exact Qq (Qq (QX u (λx t F=>Qq (QX F (λ_ B E=>QN (QN ⟨rfl,E⟩)) λ_ _ b=>b)) λ_ _ b=>b))
end
variable{scope:Scope}
theorem oj{env:Env}{x:Str}{k:NameKind}(h:(relabel scope env).names.lookup x=some k):∃ b,scope.names.lookup x=some b/\(k=b\/(b=.free/\k=.cell)):=by
 unfold relabel at h;dsimp only at h;generalize scope.names=names at h ⊢
 induction names with
 | nil=>cases h
 | cons p r d=>
  obtain⟨n,k0⟩:=p;rw[QJ]at h;rw[Q5]
  cases a:x==n with
  | true=>
   refine⟨k0,rfl,?_⟩;dsimp only at h
   split at h
   . rename_i c
     rw[Q5,a]at h;cases h;simp only[Qy,RV]at c;exact .inr ⟨c.1.1,rfl⟩
   . rw[Q5,a]at h;cases h;exact .inl rfl
  | false=>
   dsimp only at h;refine d ?_
   split at h
   . rw[Q5,a]at h;exact h
   . rw[Q5,a]at h;exact h
def blkCx(X:Cx)(N:List Str)(scope:Scope)(d:List (Str × Addr))(s:Shared)(H:Hp)(fp:List Addr):Cx where
 prog:=X.prog
 w:=X.w
 K:=X.K
 mg:=X.mg
 base:=X.base
 A:=X.A
 N:=N
 s₀:=s
 H₀:=H
 env:=G4 scope d (s.heap.objs.size+1) X.env
 outer:=X.stack
 stack:=X.stack
 ex:=fp
 fn:=λx=>scope.names.lookup x==some .cell
 calm:=X.calm
 pn:=[]
 xe:=λg h=>(∃(f:List (Addr × Obj)) (σ:St),Inv X f σ H s/\∀ b∈fp,FpOk X f H b)->notedBy (model X.prog X.w) X.A (G4 scope d (s.heap.objs.size+1) X.env) (λx c=>∃ m,c.heap.Ns (s.heap.objs.size+1) m/\∀ e,Heap.SameBut (s.heap.objs.size+1) c.heap e->∀ a:Env,a.locals=s.heap.objs.size+1->
  wpAny (model X.prog X.w) X.A (passOn "comprehension.variables-let-go" x a:Sem Value) (λ_ _=>False) X.xe {c with heap:=e}) g h
def subσ(ix:List (Option Nat))(σ:St):St:=ix.map λo=>match o with | none=>none | some i=>match σ[i]? with | some v=>v | none=>none
structure BlkOk(X:Cx)(N:List Str)(ix:List (Option Nat))(scope:Scope):Prop where
 kind:scope.kind=.function
 nd:N.Nodup
 len:ix.length=N.length
 names:(scope.names.map (·.1)).Nodup
 free:∀ x,(x,NameKind.free)∈scope.names->X.env.kindOf x=some .cell\/X.env.kindOf x=some .free
 at_:∀(j i:Nat) (x:Str),N[j]? =some x->ix[j]? =some (some i)->X.N[i]? =some x/\(x,NameKind.free)∈scope.names
theorem gU{α:Type}:∀{l:List (Str × α)} {x:Str} {k:α},(l.map (·.1)).Nodup->(x,k)∈l->l.lookup x=some k
 | (y,k0)::r,x,k,nd,h=>by
  rw[QJ,Rr]at nd;rw[Q5];rcases Qs.mp h with e | e
  . cases e;simp
  . have:x≠y:=by
     rintro rfl;exact nd.1 (Qe.mpr ⟨(x,k),e,rfl⟩)
    have a:(x==y)=false:=by simpa using this
    rw[a];exact gU nd.2 e
def G6 {X:Cx} {PN:List (Addr × Obj)} {σ:St} {H:Hp} {s:Shared} {N:List Str} {ix:List (Option Nat)} {k:List (Str × Addr)} {fp:List Addr} (B:BlkOk X N ix scope)
  (I:Inv X PN σ H s) (g:∀ x c,k.lookup x=some c->X.env.cells.lookup x=some c) (P:∀ x,(x,NameKind.free)∈scope.names->∃ c,k.lookup x=some c)
  (E:∀ b∈fp,FpOk X PN H b) (ac:∀ b∈fp,∃ o,s.heap.get? b=some o/\∀ v,o.data≠.cell v):
  Inv (blkCx X N scope k s H fp) [] (subσ ix σ) (upd H s.heap.objs.size (.lst []))
   {s with heap:=pushCells ((s.heap.push {cls:=.type "list",data:=.seq #[]}).push {cls:=.type "dict",data:=.dict #[]}) scope.names}:=by
 have T:(s.heap.push {cls:=.type "list",data:=.seq #[]}).objs.size=s.heap.objs.size+1:=RY ..;have R:((s.heap.push {cls:=.type "list",data:=.seq #[]}).push {cls:=.type "dict",data:=.dict #[]}).objs.size=s.heap.objs.size+2:=by rw[RY,T]
 have Y:∀ b o,s.heap.get? b=some o->(pushCells ((s.heap.push {cls:=.type "list",data:=.seq #[]}).push {cls:=.type "dict",data:=.dict #[]}) scope.names).get? b=some o:=
  λb o e=>SX _ _ b o (Qb _ (Qb _ e))
 have hl:(pushCells ((s.heap.push {cls:=.type "list",data:=.seq #[]}).push {cls:=.type "dict",data:=.dict #[]}) scope.names).get? s.heap.objs.size=some {cls:=.type "list",data:=.seq #[]}:=
  SX _ _ _ _ (Qb _ (QG _ rfl))
 have D:=cellsFrom_ok scope.names ((s.heap.push {cls:=.type "list",data:=.seq #[]}).push {cls:=.type "dict",data:=.dict #[]}) (s.heap.objs.size+2) [] ⟨λ_ _ O=>(nomatch O),List.Pairwise.nil⟩ (by rw[R];exact Qd _);rw[R]at D
 have f:(blkCx X N scope k s H fp).env.cells=cellsFrom (s.heap.objs.size+2) scope.names []++k:=by
  show cellsFrom (s.heap.objs.size+1+1) scope.names k=_;rw[← List.nil_append k,mZ];simp
 have a:∀ x c,(blkCx X N scope k s H fp).env.cells.lookup x=some c->((x,c)∈cellsFrom (s.heap.objs.size+2) scope.names []/\(x,NameKind.cell)∈scope.names)\/((cellsFrom (s.heap.objs.size+2) scope.names []).lookup x=none/\k.lookup x=some c):=λx c e=>by
  rw[f,dX]at e
  cases q:(cellsFrom (s.heap.objs.size+2) scope.names []).lookup x with
  | none=>rw[q]at e;exact .inr ⟨rfl,e⟩
  | some U=>
   rw[q]at e;cases e;have m:=Rh q;refine .inl ⟨m,?_⟩;rcases jI _ _ _ m with z | z
   . exact z
   . exact nomatch z
 have l:∀ x c,k.lookup x=some c->c<s.heap.objs.size:=λx c e=>by
  obtain⟨v,q⟩:=I.cell x c (g x c e);exact q.lt
 have J:H s.heap.objs.size=none:=I.hok.fresh (Qd _)
 have F:∀ b,s.heap.objs.size<b->(upd H s.heap.objs.size (.lst [])) b=none:=λb h=>by
  rw[ap (S4 h)];exact I.hok.fresh (QT h)
 have Q:∀ b∈fp,b<s.heap.objs.size:=λb h=>by
  obtain⟨o,e,_⟩:=ac b h;exact Qo e
 have W:=I.env0;have d:∀ x c,(x,c)∈cellsFrom (s.heap.objs.size+2) scope.names []->s.heap.objs.size+2<=c:=λx c m=>(D.empty x c m).2
 refine⟨⟨I.ok.mod,B.kind,I.ok.glob,I.ok.blt,R5 _,λx y c e1 e2=>?_,λx hx=>?_,λx c hx e=>?_,I.ok.hd,I.ok.frames,.inl rfl,λb h=>⟨?_,λx c e=>?_⟩,W.bs,W.bsz,λb o e h=>?_,λb h Z=>?_,W.funs,W.frf⟩,
  rfl,I.bare,Un.laid Y (Qd _) J,⟨λ_=>none,?_,λj x v e1 e2 e3=>?_⟩,λx c e=>?_,F _ (SL _),λx c e=>?_,λp hp=>absurd (show p∈([]:List (Addr × Obj)) from hp) (by simp),?_,?_⟩
 . rcases a x c e1 with ⟨A,k1⟩ | ⟨M,C⟩ <;> rcases a y c e2 with ⟨m2,k2⟩ | ⟨n2,w⟩
   . exact name_of_addr D.apart A m2
   . exact absurd (Qv (l _ _ w) (Qa (SQ _ _) (d _ _ A))) (Rv _)
   . exact absurd (Qv (l _ _ C) (Qa (SQ _ _) (d _ _ m2))) (Rv _)
   . exact I.ok.inj x y c (g _ _ C) (g _ _ w)
 . have K:(relabel scope X.env).names.lookup x=some .cell\/(relabel scope X.env).names.lookup x=some .free:=hx
   have af:scope.names.lookup x=some .cell\/scope.names.lookup x=some .free:=by
    rcases K with z | z
    . obtain⟨k',e,r | r⟩:=oj z
      . rw[← r]at e;exact .inl e
      . rw[r.1]at e;exact .inr e
    . obtain⟨k',e,r | r⟩:=oj z
      . rw[← r]at e;exact .inr e
      . cases r.2
   rw[f];rcases af with z | z
   . obtain⟨c,q⟩:=r8 (n:=s.heap.objs.size+2) z;exact⟨c,by rw[dX,q]⟩
   . obtain⟨c,q⟩:=P x (Rh z)
     cases w:(cellsFrom (s.heap.objs.size+2) scope.names []).lookup x with
     | none=>exact⟨c,by rw[dX,w];exact q⟩
     | some U=>exact⟨U,by rw[dX,w]⟩
 . have K:scope.names.lookup x=some .cell:=by simpa [blkCx] using hx
   rcases a x c e with ⟨A,k1⟩ | ⟨M,C⟩
   . exact Qa (SQ _ _) (d _ _ A)
   . obtain⟨U,q⟩:=r8 (n:=s.heap.objs.size+2) K;rw[q]at M;cases M
 . exact QH (RA (Q b h))
 . rcases a x c e with ⟨A,k1⟩ | ⟨M,C⟩
   . exact S4 (Qv (Q b h) (Qa (SQ _ _) (d _ _ A)))
   . exact(E b h).2.2.2.2.1 x c (g _ _ C)
 . rcases(E b h).2.2.2.1 with z | z
   . exact I.ok.noex b o e z
   . exact absurd (Qv (Qo e) (Qa I.ok.bsz z)) (Rv _)
 . rcases Qs.mp (I.stkSub b Z) with z | z
   . exact(E b h).2.1 z
   . exact(E b h).2.2.1 z
 . show Heap.Ns _ (s.heap.objs.size+1) _;rw[← T];exact(Heap.Ns.new _ (.type "dict")).keeps (SX _ _)
 .
   unfold subσ at e2;rw[P5]at e2
   cases q:ix[j]? with
   | none=>rw[q]at e2;cases e2
   | some o=>
    rw[q]at e2
    cases o with
    | none=>cases e2
    | some i=>
     simp only[Option.map_some,Option.some.injEq]at e2;obtain⟨hN,O⟩:=B.at_ j i x e1 q
     have hσ:σ[i]? =some (some v):=by
      cases w:σ[i]? with
      | none=>rw[w]at e2;cases e2
      | some z=>rw[w]at e2;exact congrArg some e2
     obtain⟨m,hn,ab⟩:=I.loc;have t:=B.free x O;have S:Vis X.env.scope x:=t.elim (λz=>.inr (.inl z)) λz=>.inr (.inr z);obtain⟨u,ru,lk⟩:=ab i x v hN hσ S;refine⟨u,ru,?_⟩;obtain⟨c,hc⟩:=P x O
     have G:(cellsFrom (s.heap.objs.size+2) scope.names []).lookup x=none:=by
      cases w:(cellsFrom (s.heap.objs.size+2) scope.names []).lookup x with
      | none=>rfl
      | some U=>
       rcases jI _ _ _ (Rh w) with z | z
       . have a1:=gU B.names z;have a2:=gU B.names O;rw[a1]at a2;cases a2
       . exact nomatch z
     have L:(blkCx X N scope k s H fp).env.cells.lookup x=some c:=by rw[f,dX,G];exact hc
     have ae:(blkCx X N scope k s H fp).env.kindOf x=some .cell\/(blkCx X N scope k s H fp).env.kindOf x=some .free:=by
      rcases e3 with z | z | z
      . obtain⟨k',e,r | r⟩:=oj (show(relabel scope X.env).names.lookup x=some .local from z)
        . rw[gU B.names O]at e;cases e;cases r
        . cases r.2
      . exact .inl z
      . exact .inr z
     refine .inr ⟨ae,c,L,?_⟩;rcases lk with ⟨k1,_⟩ | ⟨_,c2,e4,z⟩
     . rcases t with z | z <;> rw[k1]at z <;> cases z
     . rw[g x c hc]at e4;cases e4;exact z.keeps Y
 . rcases a x c e with ⟨A,k1⟩ | ⟨M,C⟩
   . exact⟨none,(D.empty x c A).1⟩
   . obtain⟨v,z⟩:=I.cell x c (g _ _ C);exact⟨v,z.keeps Y⟩
 . rcases a x c e with ⟨A,k1⟩ | ⟨M,C⟩
   . exact F c (Qv (Nat.lt_add_of_pos_right #[1]) (d _ _ A))
   . rw[ap (QH (l _ _ C))];exact I.freeC x c (g _ _ C)
 . exact I.hok.laid Y (Qd _) ⟨QI _,[],0,.nil,hl⟩
 . show(subσ ix σ).length=N.length;unfold subσ;rw[P0];exact B.len
def PTs(X:Cx)(a:List Expr)(t:TT):Prop:=
 ∀(b:List (Addr × Obj)) (s:Shared) (σ:St) (H:Hp) (Q:Bool->Hp->Prop),Inv X b σ H s->t σ H Q->
  wpAny (model X.prog X.w) X.A (forIn a true λc r=>if r=true then do let ok ← isTrue c X.env (eval c X.env);pure (ForInStep.yield ok) else pure (ForInStep.yield r)) (TP X b σ Q) X.xe s
def tTrue:TT:=λ_ H Q=>Q true H
def aS{X:Cx}:PTs X [] tTrue:=λ_ _ _ H _ I h=>wpAny_tests_nil ⟨H,I,h⟩
def bC{X:Cx}{c:Expr}{t:TT}(h:PT X c t):PTs X [c] t:=λa s σ H Q I q=>wpAny_tests_one (h a s σ H Q I q)
def Ci(ix:List (Option Nat))(s:TI)(g:TG)(u:TT)(r:TE)(f:Addr->Hp->Prop):St->Hp->Prop:=λσ H=>s σ H λJ o=>∀ l,o l=none->
 ∃ W:Nat->Nat->St->Hp->Prop,(∃ m,W 0 m (subσ ix σ) (upd o l (.lst [])))/\∀ i m q c,W i m q c->
  (J.stop i c/\f l c)\/(J.go i c/\∃ N:St->Hp->Prop,(∀ d a,N d a->∃ p,p<m/\W (i+1) p d a)/\∀ x n,J.yld i c x n->g x q n λe t=>u e t λb k=>
   if b=true then r e k λy j=>∃ h,j l=↥h/\h.length<sizeLine/\N e (upd j l (.lst (h++[y]))) else N e k)
section
variable{X:Cx}{PN:List (Addr × Obj)}{σ σ':St}{H H':Hp}{s s':Shared}{N:List Str}{scope:Scope}{cl:List (Str × Addr)}{fp:List Addr}
def EX{h':Heap}(I:Inv X PN σ H s)(J:Inv (blkCx X N scope cl s H fp) [] σ' H' s')(h:∀ b∈fp,FpOk X PN H b)(f:Heap.SameBut (s.heap.objs.size+1) s'.heap h'):Inv X PN σ H' {s' with heap:=h'}:=by
 have u:Un (frs X.stack) fp H H' s.heap s'.heap:=J.base;have j:H' (s.heap.objs.size+1)=none:=J.free;have i:∀ b o,s.heap.get? b=some o->b≠s.heap.objs.size+1:=λb o e=>QH (RA (Qo e));refine I.call' (s':={s' with heap:=h'}) (ch:=fp) J.os ⟨λb o e n a d=>?_,λb o e n a d=>?_,u.free,λb o e d=>?_,u.tups,u.frzs,u.tbls⟩ (λb m e=>?_) J.bare λb a=>?_
 . exact(f.2 b (i b o e)).trans (u.keep b o e n a d)
 . obtain⟨r,q⟩:=u.slot b o e n a d;exact⟨r,(f.2 b (i b o e)).trans q⟩
 . obtain⟨t,q⟩:=u.there b o e d;exact⟨t,(f.2 b (i b o e)).trans q⟩
 . refine(J.hok b m e).stay (λc y g q=>(f.2 c ?_).trans q) (λ_ q=>q) λ_ _ q=>q;rintro rfl;rcases g with rfl | g
   . rw[j]at e;cases e
   . rw[j]at g;cases g
 . obtain⟨x,p,w,l,v,k⟩:=h b a;exact⟨l,p,v,k⟩
def Cj {tg t G:Expr} {K:List Expr} {pos:Pos} {ix:List (Option Nat)} {wi:TI} {g:TG} {tt:TT} {te:TE} {Y:Addr->Hp->Prop} {RR:Value->Addr->Result->Shared->Prop} (B:BlkOk X N ix scope) (hc:X.calm=true)
  (hi:PI X tg t wi) (hg:∀ cl s H fp,PG (blkCx X N scope cl s H fp) tg g) (ht:∀ cl s H fp,PTs (blkCx X N scope cl s H fp) K tt) (he:∀ cl s H fp,PE (blkCx X N scope cl s H fp) G te)
  (av:∀ x c,cl.lookup x=some c->X.env.cells.lookup x=some c) (ak:∀ x,(x,NameKind.free)∈scope.names->∃ c,cl.lookup x=some c)
  (I:Inv X PN σ H s) (h:Ci ix wi g tt te Y σ H)
  (ok:∀(f:Shared) (j:Hp) (fp:List Addr) (σ3:St) (H3:Hp) (s3:Shared),Inv X PN σ j f->(∀ b∈fp,FpOk X PN j b)->Inv (blkCx X N scope cl f j fp) [] σ3 H3 s3->Y f.heap.objs.size H3->RR (.ref f.heap.objs.size) (f.heap.objs.size+1) (.ok .next) s3)
  (ac:∀(a C:Addr) (x:Value) (s':Shared),(∃ m,s'.heap.Ns C m/\∀ h',Heap.SameBut C s'.heap h'->∀ k:Env,k.locals=C->wpAny (model X.prog X.w) X.A (passOn "comprehension.variables-let-go" x k:Sem Value) (λ_ _=>False) X.xe {s' with heap:=h'})->RR (.ref a) C (.error x) s'):
  wpAny (model X.prog X.w) X.A (eval t X.env) (λx s₁=>wpAny (model X.prog X.w) X.A (pyIter x) (λit s₂=>wpAny (model X.prog X.w) X.A (newList []) (λR Z=>
   wpAny (model X.prog X.w) X.A (newFunctionEnv scope X.env.globals cl [] X.env.qual none .none (some X.env)) (λk s₄=>
    codeAny (model X.prog X.w) X.A (.compStart (.ListComp G [⟨tg,t,K,0⟩] scope pos) 0 it R {k with scope:=relabel scope X.env}) (RR R k.locals) s₄) X.xe Z) X.xe s₂) X.xe s₁) X.xe s:=by
 refine thn (hi PN s σ H _ I h) λv s1 h1=>thn h1 λaA f h2=>?_;obtain⟨it,fp,tn,J,j,e,I2,T,O,f2,h2⟩:=h2;subst e;refine wpAny_newList (IJ ?_) (QI _);have ao:(f.heap.push {cls:=.type "list",data:=.seq (([]:List Value)).toArray}).objs.size=f.heap.objs.size+1:=RY ..;dsimp only;rw[ao];have I3:=G6 (fp:=fp) B I2 av ak f2 (T.obj _ _ O);obtain⟨W,⟨m0,w0⟩,ab⟩:=h2 f.heap.objs.size I2.fresh
 have hk:∀ b o,f.heap.get? b=some o->(pushCells ((f.heap.push {cls:=.type "list",data:=.seq #[]}).push {cls:=.type "dict",data:=.dict #[]}) scope.names).get? b=some o:=
  λb o e=>SX _ _ b o (Qb _ (Qb _ e))
 have S:=T.keep _ _ _ O λb _ o e=>hk b o e
 have am:∀ b∈fp,(upd j f.heap.objs.size (.lst [])) b=none:=λb z=>by
  obtain⟨o,e,_⟩:=T.obj _ _ O b z;rw[ap (QH (Qo e))];exact(f2 b z).1
 have D:∀{σ5:St} {H5:Hp} {s5:Shared},Inv (blkCx X N scope cl f j fp) [] σ5 H5 s5->(∀ b∈fp,H5 b=none)->∀ b∈fp,FpOk (blkCx X N scope cl f j fp) [] H5 b:=λU hn b z=>
  ⟨hn b z,(U.ok.exf b z).1,U.ok.exfs b z,.inl z,(U.ok.exf b z).2,λp hp=>absurd (show p∈([]:List (Addr × Obj)) from hp) (by simp)⟩
 have F:∀ Z:Shared,Z={f with heap:=pushCells ((f.heap.push {cls:=.type "list",data:=.seq #[]}).push {cls:=.type "dict",data:=.dict #[]}) scope.names}->
   codeAny (model X.prog X.w) X.A (.compLoop (.ListComp G [⟨tg,t,K,0⟩] scope pos) 0 (.ref it) (.ref f.heap.objs.size) (blkCx X N scope cl f j fp).env) (RR (.ref f.heap.objs.size) (f.heap.objs.size+1)) Z:=by
  rintro Z rfl;refine G5 (λn s'=>∃ i σ' H',Inv (blkCx X N scope cl f j fp) [] σ' H' s'/\tn i s'.heap/\(∀ b∈fp,H' b=none)/\W i n σ' H') ?_ m0 ⟨0,_,_,I3,S,am,w0⟩;rintro n s4 ⟨i,σ4,H4,I4,ai,af,w4⟩
  have l:∀ x s',(blkCx X N scope cl f j fp).xe x s'->notedBy (model X.prog X.w) X.A (blkCx X N scope cl f j fp).env (λe s'=>RR (.ref f.heap.objs.size) (f.heap.objs.size+1) (.error e) s') x s':=λx s' hx=>
   QX (hx ⟨PN,σ,I2,f2⟩) (λ_ aw q=>ac _ _ _ _ q) λe aw q=>ac _ _ _ _ q
  rcases ab i n σ4 H4 w4 with ⟨ae,qn⟩ | ⟨go,Nx,hN,aj⟩
  . refine QX (T.done (blkCx X N scope cl f j fp) rfl rfl rfl hc i [] s4 σ4 H4 _ I4 (D I4 af) ai ae) (λr s5 ⟨hr,U⟩=>?_) l;subst hr;exact ok f j fp σ4 H4 s5 I2 f2 U qn
  . refine QX (T.item (blkCx X N scope cl f j fp) rfl rfl rfl hc i [] s4 σ4 H4 _ I4 (D I4 af) ai go) (λr s5 ⟨u,hr,h5⟩=>?_) l;subst hr;refine QX h5 (λ_ s6 ⟨x,H6,I6,r6,y6,L,as⟩=>?_) l;have au:=I6.pinned (D I6 as) (T.obj _ _ L);refine QX (hg cl f j fp _ s6 σ4 H6 x u _ au r6 (aj x H6 y6)) (λ_ s7 ⟨σ7,H7,I7,q7⟩=>?_) l
    have E:∀{σ8:St} {M:Hp} {Q:Shared},Inv (blkCx X N scope cl f j fp) ([]++t8 fp s6.heap) σ8 M Q->Nx σ8 M->∃ m,m<n/\∃ i σ' H',Inv (blkCx X N scope cl f j fp) [] σ' H' Q/\tn i Q.heap/\(∀ b∈fp,H' b=none)/\W i m σ' H':=λ{σ8 M Q} P n8=>by
     obtain⟨m',hm,w8⟩:=hN σ8 M n8;refine⟨m',hm,i+1,σ8,M,P.unpinned,T.keep _ _ _ L λb z o e=>(P.pin (b,o) (QY _ (QY _ (nN z e)))).1,λb z=>?_,w8⟩;obtain⟨o,e,d⟩:=T.obj _ _ L b z;exact(P.pin (b,o) (QY _ (QY _ (nN z e)))).2.1
    refine QX (ht cl f j fp _ s7 σ7 H7 _ I7 q7) (λar Q ⟨M,P,q8⟩=>?_) l
    cases ar with
    | false=>exact E P q8
    | true=>
     refine QX (he cl f j fp _ Q σ7 M _ P q8) (λy s9 ⟨yv,H9,I9,r9,ys,hl,hz,q9⟩=>?_) l;refine QX (AT (X:=blkCx X N scope cl f j fp) _ s9 σ7 H9 (.ref f.heap.objs.size) [yv] (.ref f.heap.objs.size) [y] (λ_ ag=>Nx σ7 ag) I9 rfl (.cons r9 .nil) ⟨_,ys,yv,rfl,rfl,hl,hz,q9⟩) (λ_ ay ⟨_,ag,aq,_,al⟩=>?_) l;exact E aq al
 exact codeAny_compStart_list (F _ rfl) (T.self _ 0 _ _ _ S (F _ rfl))
def tComp(ix:List (Option Nat))(c:TI)(g:TG)(b:TT)(a:TE):TE:=λσ H Q=>Ci ix c g b a (λl H'=>Q (.ref l) H') σ H
def sComp(k:Nat)(ix:List (Option Nat))(c:TI)(g:TG)(b:TT)(a:TE):TS:=λD σ H=>Ci ix c g b a (λl H'=>D.nx (σ.set k ↑l) H') σ H
def EY(I:Inv X PN σ H s){ix:List (Option Nat)}(B:BlkOk X N ix scope):∃ cl,closureFor scope X.env=pure cl/\(∀ x c,cl.lookup x=some c->X.env.cells.lookup x=some c)/\∀ x,(x,NameKind.free)∈scope.names->∃ c,cl.lookup x=some c:=
 FL λx a=>I.ok.has x (B.free x a)
def wz{ix:List (Option Nat)}(B:BlkOk X N ix scope):∀ x∈scope.names,x.2=NameKind.local->scope.names.lookup x.1=some .local:=λx a e=>by
 obtain⟨n,k⟩:=x;cases e;exact gU B.names a
def aH {e b c:Expr} {d:List Expr} {pos:Pos} {ix:List (Option Nat)} {k:TI} {g:TG} {i:TT} {j:TE} (N:List Str) (B:BlkOk X N ix scope) (r:X.calm=true)
  (o:PI X e b k) (n:∀ cl s H fp,PG (blkCx X N scope cl s H fp) e g) (p:∀ cl s H fp,PTs (blkCx X N scope cl s H fp) d i) (D:∀ cl s H fp,PE (blkCx X N scope cl s H fp) c j)
  (z:∀ x,foldedSetIterable b X.env x=pure x:=by intro _;rfl):PE X (.ListComp c [⟨e,b,d,0⟩] scope pos) (tComp ix k g i j):=by
 intro PN s σ H Q I h;obtain⟨cl,e1,e2,t⟩:=EY I B;rw[eval_ListComp];refine Tw (use:=none) rfl z e1 B.kind (wz B) ?_;refine Cj (RR:=λf C=>compPost (model X.prog X.w) X.A X.xe none (EP X PN σ Q) f C) B r o n p D e2 t I h (λL K fp M E G l y J q=>?_) (λa C x s' q=>q);obtain⟨m,v,_⟩:=J.loc;exact⟨m,v,λF u=>⟨.ref _,E,EX l J y u,rfl,q⟩⟩
def qR {y:Str} {n j:Pos} {k:Nat} {r d f:Expr} {i:List Expr} {pos:Pos} {ix:List (Option Nat)} {P:TI} {g:TG} {M:TT} {O:TE} (hN:X.N.Nodup) (hy:X.N[k]? =some y) (hx:Loc X.env.scope y)
  (E:swapsWith (.ListComp f [⟨r,d,i,0⟩] scope pos) (some (.Name y n)) j.line X.env=pure true) (N:List Str) (B:BlkOk X N ix scope) (hc:X.calm=true)
  (U:PI X r d P) (T:∀ cl s H fp,PG (blkCx X N scope cl s H fp) r g) (Y:∀ cl s H fp,PTs (blkCx X N scope cl s H fp) i M) (he:∀ cl s H fp,PE (blkCx X N scope cl s H fp) f O)
  (hs:∀ x,foldedSetIterable d X.env x=pure x:=by intro _;rfl) (hf:X.fn y=true\/X.env.scope.names.lookup y=some .local:=by first | exact .inl rfl | exact .inr rfl | assumption):
  PS X (.Assign [.Name y n] (.ListComp f [⟨r,d,i,0⟩] scope pos) j) (sComp k ix P g M O):=by
 intro PN s σ H D I h;obtain⟨cl,e1,e2,e3⟩:=EY I B;rw[exec_Assign_Name_used _ _ _ _ E];refine Qq (ST (Qq ?_));show wpAny _ X.A (do let _ ← comprehension (.ListComp f [⟨r,d,i,0⟩] scope pos) scope X.env _ (newList []) false (eval d X.env) (some (assign (.Name y n) X.env))) _ _ s;refine Qq (QX (Tw (use:=some (assign (.Name y n) X.env)) (Q:=λ_ s'=>SP X PN D .next s') rfl hs e1 B.kind (wz B) ?_) (λ_ s' hq=>QN (QN hq)) λ_ _ e=>e);refine Cj (RR:=λt C=>compPost (model X.prog X.w) X.A X.xe (some (assign (.Name y n) X.env)) (λ_ s'=>SP X PN D .next s') t C) B hc U T Y he e2 e3 I h (λK H2 fp σ3 S R l f2 J q=>?_) (λa C x s' q=>q);obtain⟨m,hn,_⟩:=J.loc;have I3:Inv X PN σ S {R with heap:=R.heap}:=EX l J f2 (Heap.SameBut.refl _ _);show wpAny _ X.A (assign (.Name y n) X.env (.ref _)) _ _ _;refine wpAny_assign_Name (AK (v:=.ref _) I3 hN hy hx rfl (λW Z ⟨a,F,L⟩=>?_) hf)
 have u:a<K.heap.objs.size:=by
  rcases L with rfl | L
  . exact l.lt
  . obtain⟨v,z⟩:=l.cell _ _ L;exact z.lt
 have G:K.heap.objs.size+1≠a:=S4 (RA u);refine⟨m,hn.sameBut F G,λh' sb=>?_⟩;refine⟨_,S,Z.turned (t':=W.toks) (it:=K.heap.objs.size+1) (λb o hb e=>(sb.2 b hb).trans e) J.free (S4 (RA l.lt)) (.inr (Qa l.sz (R5 _))) (λx c e=>?_) (λp hp=>?_),q⟩
 . obtain⟨v,z⟩:=l.cell x c e;exact QH (RA z.lt)
 . exact QH (RA (Qo (l.pin p hp).1))
end
def bnd{α:Type}:Option α->(α->Prop)->Prop
 | some a,k=>k a
 | none,_=>False
def bt{α:Type}{o:Option α}{a:α}{k:α->Prop}(h:o=some a)(q:k a):bnd o k:=by subst h;exact q
theorem bu{α:Type}{o:Option α}{k:α->Prop}(h:bnd o k):∃ a,o=some a/\k a:=by
 cases o with
 | none=>exact h.elim
 | some a=>exact⟨a,rfl,h⟩
def bD{α:Type}{a:α}{k:α->Prop}:bnd (some a) k=k a:=rfl
def unM:Option HO->Option (List V)
 | ↥xs=>some xs
 | _=>none
def unL:Option HO->Option (List V)
 | ↥xs=>some xs
 | some (.frz _ (.lst xs))=>some xs
 | _=>none
def unS:Option HO->Option (List V)
 | ↥xs=>some xs
 | some (.frz _ (.lst xs))=>some xs
 | some (.tup xs)=>some xs
 | _=>none
variable{o:Option HO}{xs:List V}
def jB(h:unM o=some xs):o=↥xs:=by
 unfold unM at h;split at h
 . cases h;rfl
 . cases h
def uh{K:Frag}{H:Hp}{p:Addr}(h:unL (H p)=some xs):SqL K H p xs:=by
 unfold unL at h;split at h
 . rename_i e;cases h;exact .inl (.inl e)
 . rename_i o _ e;cases h;exact .inl (.inr ⟨_,e⟩)
 . cases h
def qS{K:Frag}{H:Hp}{p:Addr}(h:unS (H p)=some xs):SqL K H p xs\/SqT K H p xs:=by
 unfold unS at h;split at h
 . rename_i e;cases h;exact .inl (.inl (.inl e))
 . rename_i o _ e;cases h;exact .inl (.inl (.inr ⟨_,e⟩))
 . rename_i e;cases h;exact .inr (.inl (.inl e))
 . cases h
mutual
inductive DV(K:Frag)(H:Hp):V->PyData->Prop
 | non:DV K H .non .none
 | bl (b:Bool):DV K H (.bl b) (.bool b)
 | int (i:Int):DV K H (.int i) (.int i)
 | str (x:Str):DV K H (.str x) (.str x)
 | lst {a:Addr} {xs:List V} {ds:List PyData}:SqL K H a xs->DVs K H xs ds->DV K H (.ref a) (.list ds)
 | tup {a:Addr} {xs:List V} {ds:List PyData}:SqT K H a xs->DVs K H xs ds->DV K H (.ref a) (.tuple ds)
inductive DVs(K:Frag)(H:Hp):List V->List PyData->Prop
 | nil:DVs K H [] []
 | cons {x:V} {d:PyData} {xs:List V} {ds:List PyData}:DV K H x d->DVs K H xs ds->DVs K H (x::xs) (d::ds)
end
section
variable{X:Cx}{PN:List (Addr × Obj)}{σ:St}{H:Hp}{s:Shared}
mutual
theorem DV.reads(I:Inv X PN σ H s):∀{x:V} {d:PyData} {v:Value},DV X.K H x d->RelV x v->∃ e,Reads s.heap v d e
 | _,_,_,.non,r=>by cases r;exact⟨_,.none⟩
 | _,_,_,.bl b,r=>by cases r;exact⟨_,.bool b⟩
 | _,_,_,.int i,r=>by obtain⟨t,rfl⟩:=r;exact⟨_,.int i t⟩
 | _,_,_,.str x,r=>by obtain⟨t,rfl⟩:=r;exact⟨_,.str x t⟩
 | _,_,_,.lst (a:=a) h hs,r=>by
  cases r;obtain⟨PU,c,p,_⟩:=I.list h;obtain⟨e,q⟩:=DVs.reads I hs c;obtain⟨o,h1,h2,n,h3⟩:=p.isList;exact⟨_,.list h1 h2 h3 q⟩
 | _,_,_,.tup (a:=a) h hs,r=>by
  cases r;obtain⟨PU,c,p,_⟩:=I.tuple h;obtain⟨e,q⟩:=DVs.reads I hs c;obtain⟨o,h1,h2,n,h3⟩:=p;exact⟨_,.tuple h1 h2 h3 q⟩
theorem DVs.reads(I:Inv X PN σ H s):∀{xs:List V} {a:List PyData} {us:List Value},DVs X.K H xs a->Vals xs us->∃ b,ReadsAll s.heap us a b
 | _,_,_,.nil,.nil=>⟨_,.nil⟩
 | _,_,_,.cons h hs,.cons r rs=>by
  obtain⟨b,q⟩:=DV.reads I h r;obtain⟨bs,c⟩:=DVs.reads I hs rs;exact⟨_,.cons q c⟩
end
end
theorem DVs.ints{K:Frag}{H:Hp}:∀ ns:∅,DVs K H (ns.map V.int) (ns.map PyData.int)
 | []=>.nil
 | n::r=>.cons (.int n) (DVs.ints r)
def se:∀ ns ms:∅,PyData.eqvAll (ns.map PyData.int) (ms.map PyData.int)=decide (ns=ms):=PySem.W.ked_eqvAll
theorem oo:∀ ns:∅,PyData.canLayAll0 (ns.map PyData.int)=true
 | []=>rfl
 | n::r=>by rw[QJ,PyData.canLayAll0,oo r];rfl
theorem kC:∀ ns:∅,PyData.depthAll (ns.map PyData.int)=0
 | []=>rfl
 | n::r=>by rw[QJ,PyData.depthAll,kC r];rfl
def mG(ns:∅):SeqAt.shaped (.list (ns.map PyData.int))=true:=by
 simp[SeqAt.shaped,PyData.canLay0,oo,PyData.depth,kC]
def cAdd:R2
 | .int i,.int j,H,Q=>Q (.int (i+j)) H
 | .str i,.str j,H,Q=>i.length+j.length<=sizeLine/\Q (.str (i++j)) H
 | .ref l,.ref b,H,Q=>bnd (unM (H l)) λxs=>bnd (unM (H b)) λa=>xs.length+a.length<=sizeLine/\∀ p,H p=none->Q (.ref p) (upd H p (.lst (xs++a)))
 | _,_,_,_=>False
def cSub:R2
 | .int i,.int j,H,Q=>Q (.int (i-j)) H
 | _,_,_,_=>False
def cMul:R2
 | .int i,.int j,H,Q=>CMul i j/\Q (.int (i*j)) H
 | _,_,_,_=>False
def cDiv:R2
 | .int i,.int j,H,Q=>CDiv i j/\Q (.int (i/j)) H
 | _,_,_,_=>False
def cMod:R2
 | .int i,.int j,H,Q=>0<j/\Q (.int (i%j)) H
 | _,_,_,_=>False
def cPow:R2
 | .int i,.int j,H,Q=>CPow i j/\Q (.int (i^j.toNat)) H
 | _,_,_,_=>False
def cCmp(g:Int->Int->Bool):R2
 | .int i,.int j,H,Q=>Q (.bl (g i j)) H
 | _,_,_,_=>False
def rEqD(K:Frag):R2:=λx y H Q=>∃ d e,DV K H x d/\DV K H y e/\SeqAt.shaped d=true/\SeqAt.shaped e=true/\Q (.bl (PyData.eqv d e)) H
def rNeD(K:Frag):R2:=λx y H Q=>∃ d e,DV K H x d/\DV K H y e/\SeqAt.shaped d=true/\SeqAt.shaped e=true/\Q (.bl (!PyData.eqv d e)) H
def cEq(K:Frag):R2
 | .int i,.int j,H,Q=>Q (.bl (decide (i=j))) H
 | .bl i,.bl j,H,Q=>Q (.bl (decide (i=j))) H
 | .str i,.str j,H,Q=>Q (.bl (decide (i=j))) H
 | x,y,H,Q=>rEqD K x y H Q
def cNe(K:Frag):R2
 | .int i,.int j,H,Q=>Q (.bl (!decide (i=j))) H
 | .bl i,.bl j,H,Q=>Q (.bl (!decide (i=j))) H
 | .str i,.str j,H,Q=>Q (.bl (!decide (i=j))) H
 | x,y,H,Q=>rNeD K x y H Q
def rInD(K:Frag)(b:Bool):R2:=λx y H Q=>∃ d a,DV K H x d/\(DV K H y (.list a)\/DV K H y (.tuple a))/\PyData.canLayAll0 a=true/\PyData.canLay0 d=true/\min (PyData.depthAll a) d.depth<=62/\
 Q (.bl (if b then !a.any (λy=>PyData.eqv y d) else a.any λy=>PyData.eqv y d)) H
def keyOf:V->Option Key
 | .int i=>some (.inl i)
 | .str x=>some (.inr x)
 | _=>none
def unD:Option HO->Option (List (Key × V))
 | some (.dK PR)=>some PR
 | _=>none
def cIn(K:Frag)(b:Bool):R2
 | .ref a,y,H,Q=>rInD K b (.ref a) y H Q
 | x,.ref p,H,Q=>(match unD (H p) with
  | some PR=>bnd (keyOf x) λk=>Q (.bl (if b then !(valV PR k).isSome else(valV PR k).isSome)) H
  | none=>bnd (unS (H p)) λxs=>flatV x=true/\xs.all flatV=true/\Q (.bl (if b then !inV x xs else inV x xs)) H)
 | .str i,.str j,H,Q=>Q (.bl (if b then !(!(Builtin.Str.occurrences j i 0 j.length 1).isEmpty) else !(Builtin.Str.occurrences j i 0 j.length 1).isEmpty)) H
 | _,_,_,_=>False
def cIx:R2
 | .ref p,y,H,Q=>(match unD (H p) with
  | some PR=>bnd (keyOf y) λk=>bnd (valV PR k) λv=>Q v H
  | none=>match y with
   | .int i=>bnd (unS (H p)) λxs=>bnd (atI xs i) λv=>Q v H
   | _=>False)
 | .str z,.int i,H,Q=>z.length<=sizeLine/\bnd (atI z.cps.toList i) λc=>Q (.str ⟨#[c]⟩) H
 | _,_,_,_=>False
def yo{PR:List (Key × V)}(h:unD o=some PR):o=some (.dK PR):=by
 unfold unD at h;split at h
 . cases h;rfl
 . cases h
def xi{x:V}{k:Key}(h:keyOf x=some k):x=kV k:=by
 unfold keyOf at h;split at h
 . cases h;rfl
 . cases h;rfl
 . cases h
section
variable{X:Cx}{a b c:Expr}{ta tb tc:TE}{pos:Pos}
def ay:OpR X (binaryOp .Add) cAdd:=by
 intro b s σ H x y v u Q I c a h;unfold cAdd at h
 split at h
 . exact KJ b s σ H _ _ v u Q I c a ⟨_,_,rfl,rfl,h⟩
 . exact FF b s σ H _ _ v u Q I c a ⟨_,_,rfl,rfl,h.1,h.2⟩
 . obtain⟨xs,e1,h⟩:=bu h;obtain⟨d,e2,h⟩:=bu h;exact KZ b s σ H _ _ v u Q I c a ⟨_,_,xs,d,rfl,rfl,jB e1,jB e2,h.1,h.2⟩
 . exact h.elim
def ba:OpR X (binaryOp .Sub) cSub:=by
 intro b s σ H x y v u Q I c a h;unfold cSub at h
 split at h
 . exact KK b s σ H _ _ v u Q I c a ⟨_,_,rfl,rfl,h⟩
 . exact h.elim
def bQ:OpR X (binaryOp .Mult) cMul:=by
 intro b s σ H x y v u Q I c a h;unfold cMul at h
 split at h
 . exact KL b s σ H _ _ v u Q I c a ⟨_,_,rfl,rfl,h.1,h.2⟩
 . exact h.elim
def bi:OpR X (binaryOp .FloorDiv) cDiv:=by
 intro b s σ H x y v u Q I c a h;unfold cDiv at h
 split at h
 . exact JF b s σ H _ _ v u Q I c a ⟨_,_,rfl,rfl,h.1,h.2⟩
 . exact h.elim
def aJ:OpR X (binaryOp .Mod) cMod:=by
 intro b s σ H x y v u Q I c a h;unfold cMod at h
 split at h
 . exact KM b s σ H _ _ v u Q I c a ⟨_,_,rfl,rfl,h.1,h.2⟩
 . exact h.elim
def JR:OpR X (binaryOp .Pow) cPow:=by
 intro b s σ H x y v u Q I c a h;unfold cPow at h
 split at h
 . exact KN b s σ H _ _ v u Q I c a ⟨_,_,rfl,rfl,h.1,h.2⟩
 . exact h.elim
def vM{a:CmpOp}{g:Int->Int->Bool}(o:OpR X (compareOp a) (rI0 λi j=>.bl (g i j))):OpR X (compareOp a) (cCmp g):=by
 intro c s σ H x y v u Q I d b h;unfold cCmp at h
 split at h
 . exact o c s σ H _ _ v u Q I d b ⟨_,_,rfl,rfl,h⟩
 . exact h.elim
def cA:OpR X (compareOp .Lt) (cCmp λi j=>decide (i<j)):=vM LY
def fG:OpR X (compareOp .LtE) (cCmp λi j=>decide (i<=j)):=vM LZ
def cB:OpR X (compareOp .Gt) (cCmp λi j=>decide (j<i)):=vM L0
def yp:OpR X (compareOp .GtE) (cCmp λi j=>decide (j<=i)):=vM L3
def K3(f:X.A.units+64<cLine):OpR X (compareOp .Eq) (rEqD X.K):=by
 intro j s σ H x y v u Q I c a h;obtain⟨d,e,h1,h2,h3,h4,q⟩:=h;obtain⟨i,g⟩:=h1.reads I c;obtain⟨k,b⟩:=h2.reads I a;exact eq_dataH g b h3 h4 f ⟨.bl _,H,I,rfl,q⟩
def K4(f:X.A.units+64<cLine):OpR X (compareOp .NotEq) (rNeD X.K):=by
 intro j s σ H x y v u Q I c a h;obtain⟨d,e,h1,h2,h3,h4,q⟩:=h;obtain⟨i,g⟩:=h1.reads I c;obtain⟨k,b⟩:=h2.reads I a;exact ne_dataH g b h3 h4 f ⟨.bl _,H,I,rfl,q⟩
def aw(d:X.A.units+64<cLine):OpR X (compareOp .Eq) (cEq X.K):=by
 intro b s σ H x y v u Q I c a h;unfold cEq at h
 split at h
 . refine FD b s σ H _ _ v u Q I c a ⟨rfl,?_⟩
   simpa using h
 . refine FD b s σ H _ _ v u Q I c a ⟨rfl,?_⟩
   simpa using h
 . refine FD b s σ H _ _ v u Q I c a ⟨rfl,?_⟩
   simpa using h
 . exact K3 d b s σ H _ _ v u Q I c a h
def aX(d:X.A.units+64<cLine):OpR X (compareOp .NotEq) (cNe X.K):=by
 intro b s σ H x y v u Q I c a h;unfold cNe at h
 split at h
 . refine FE b s σ H _ _ v u Q I c a ⟨rfl,?_⟩
   simpa using h
 . refine FE b s σ H _ _ v u Q I c a ⟨rfl,?_⟩
   simpa using h
 . refine FE b s σ H _ _ v u Q I c a ⟨rfl,?_⟩
   simpa using h
 . exact K4 d b s σ H _ _ v u Q I c a h
def K5(j:X.A.units+64<cLine):OpR X (compareOp .In) (rInD X.K false):=by
 intro k s σ H x y v u Q I e b h;obtain⟨d,g,h1,h2,h3,h4,h5,q⟩:=h;obtain⟨i,c⟩:=h1.reads I e;rcases h2 with h2 | h2
 . obtain⟨f,a⟩:=h2.reads I b;exact SeqAt.in_list_reads a c h3 h4 #[0] ⟨.bl _,H,I,rfl,q⟩
 . obtain⟨f,a⟩:=h2.reads I b;exact SeqAt.in_tuple_reads a c h3 h4 #[0] ⟨.bl _,H,I,rfl,q⟩
def G7(j:X.A.units+64<cLine):OpR X (compareOp .NotIn) (rInD X.K true):=by
 intro k s σ H x y v u Q I e b h;obtain⟨d,g,h1,h2,h3,h4,h5,q⟩:=h;obtain⟨i,c⟩:=h1.reads I e;rcases h2 with h2 | h2
 . obtain⟨f,a⟩:=h2.reads I b;exact SeqAt.notIn_list_reads a c h3 h4 #[0] ⟨.bl _,H,I,rfl,q⟩
 . obtain⟨f,a⟩:=h2.reads I b;exact SeqAt.notIn_tuple_reads a c h3 h4 #[0] ⟨.bl _,H,I,rfl,q⟩
def gW(d:X.A.units+64<cLine):OpR X (compareOp .In) (cIn X.K false):=by
 intro c s σ H x y v u Q I b a h;unfold cIn at h
 split at h
 . exact K5 d c s σ H _ _ v u Q I b a h
 . rename_i p n
   split at h
   . rename_i PR e
     obtain⟨k,i,q⟩:=bu h;cases (show u=Value.ref p from a);have g:DGet H p x (valV PR k):=by rw[xi i];exact DGet.k (yo e)
     exact Mn (Rn (Sm (by decide:1<=64) _) d) I g b λm l=>⟨.bl _,H,l,rfl,q⟩
   . obtain⟨xs,e,j,f,q⟩:=bu h;exact ud c s σ H _ _ v u Q I b a ⟨p,xs,rfl,qS e,j,f,q⟩
 . exact GR c s σ H _ _ v u Q I b a ⟨_,_,rfl,rfl,h⟩
 . exact h.elim
def cQ(d:X.A.units+64<cLine):OpR X (compareOp .NotIn) (cIn X.K true):=by
 intro c s σ H x y v u Q I b a h;unfold cIn at h
 split at h
 . exact G7 d c s σ H _ _ v u Q I b a h
 . rename_i p n
   split at h
   . rename_i PR e
     obtain⟨k,i,q⟩:=bu h;cases (show u=Value.ref p from a);have g:DGet H p x (valV PR k):=by rw[xi i];exact DGet.k (yo e)
     exact JQ (Rn (Sm (by decide:1<=64) _) d) I g b λm l=>⟨.bl _,H,l,rfl,q⟩
   . obtain⟨xs,e,j,f,q⟩:=bu h;exact ue c s σ H _ _ v u Q I b a ⟨p,xs,rfl,qS e,j,f,q⟩
 . exact B9 c s σ H _ _ v u Q I b a ⟨_,_,rfl,rfl,h⟩
 . exact h.elim
end
section
variable{X:Cx}{a b c:Expr}{ta tb tc:TE}{pos:Pos}
theorem IK(B:X.A.units+64<cLine):IxR X cIx:=by
 intro b a m s σ H x y v u Q I l f h j
 cases x with
 | ref p=>
  unfold cIx at h;dsimp only at h
  split at h
  . rename_i PR e
    obtain⟨k,t,h⟩:=bu h;obtain⟨z,d,q⟩:=bu h;cases (show v=Value.ref p from l);have g:DGet H p y (some z):=by rw[xi t,← d];exact DGet.k (yo e)
    exact tail_any (Ek I g) Tm.lookup (G1 (Rn (Sm (by decide:1<=64) _) B) I g f λD E C n=>⟨z,H,C,n,q⟩) j
  . split at h
    . obtain⟨xs,e,h⟩:=bu h;obtain⟨z,d,q⟩:=bu h;rcases qS (K:=X.K) e with r | r
      . exact EV b a m s σ H _ _ v u Q I l f ⟨p,xs,_,z,rfl,rfl,r,d,q⟩ j
      . exact KR b a m s σ H _ _ v u Q I l f ⟨p,xs,_,z,rfl,rfl,r,d,q⟩ j
    . exact h.elim
 | str o=>
  cases y with
  | int i=>
   obtain⟨w,h⟩:=(show o.length<=sizeLine/\bnd (atI o.cps.toList i) λc=>Q (.str ⟨#[c]⟩) H from h);obtain⟨z,d,q⟩:=bu h;exact KS b a m s σ H _ _ v u Q I l f ⟨_,_,z,rfl,rfl,w,d,q⟩ j
  | _=>exact False.elim h
 | _=>exact False.elim h
def kLen:List V->Hp->VK->Prop
 | [.ref p],H,Q=>(match unD (H p) with
  | some PR=>Q (.int PR.length) H
  | none=>bnd (unS (H p)) λxs=>Q (.int xs.length) H)
 | [.str z],H,Q=>z.length<=sizeLine/\Q (.int z.length) H
 | _,_,_=>False
def aA:CallR X (.builtin "len") kLen:=by
 intro b s σ H xs a Q I r h;unfold kLen at h
 split at h
 . split at h
   . rename_i PR e
     exact G3 b s σ H _ a Q I r ⟨_,PR,rfl,yo e,h⟩
   . obtain⟨c,e,q⟩:=bu h;exact iE b s σ H _ a Q I r ⟨_,c,rfl,qS e,q⟩
 . exact Ca b s σ H _ a Q I r ⟨_,rfl,h.1,h.2⟩
 . exact h.elim
def kAbs:List V->Hp->VK->Prop
 | [.int i],H,Q=>Q (.int (if i<0 then -i else i)) H
 | _,_,_=>False
def kMin:List V->Hp->VK->Prop
 | [.int i,.int j],H,Q=>Q (.int (if j<i then j else i)) H
 | _,_,_=>False
def pq(b:X.calm=true):CallR X (.builtin "min") kMin:=by
 intro c s σ H xs a Q I r h;unfold kMin at h
 split at h
 . exact GT b c s σ H _ a Q I r ⟨_,_,rfl,h⟩
 . exact h.elim
def kMax:List V->Hp->VK->Prop
 | [.int i,.int j],H,Q=>Q (.int (if j>i then j else i)) H
 | _,_,_=>False
def G8(b:X.calm=true):CallR X (.builtin "max") kMax:=by
 intro c s σ H xs a Q I r h;unfold kMax at h
 split at h
 . exact GS b c s σ H _ a Q I r ⟨_,_,rfl,h⟩
 . exact h.elim
def kList:List V->Hp->VK->Prop
 | [.ref p],H,Q=>bnd (unS (H p)) λys=>∀ l,H l=none->Q (.ref l) (upd H l (.lst ys))
 | _,_,_=>False
def bV:CallR X (.type "list") kList:=by
 intro c s σ H xs a Q I r h;unfold kList at h
 split at h
 . obtain⟨b,e,q⟩:=bu h;exact Cb c s σ H _ a Q I r ⟨_,b,rfl,qS e,q⟩
 . exact h.elim
def vN:List V->Hp->VK->Prop
 | [.ref p],H,Q=>bnd (unL (H p)) λys=>∃ ns:∅,ys=ns.map V.int/\ns.length<64/\∀(a:∅) l,H l=none->a.Perm ns->a.Pairwise (· <=·)->Q (.ref l) (upd H l (.lst (a.map V.int)))
 | _,_,_=>False
def Ck:CallR X (.builtin "sorted") vN:=by
 intro E s σ H xs C Q I r h;unfold vN at h
 split at h
 . rename_i p
   obtain⟨D,e,z,rfl,x,q⟩:=bu h;obtain⟨u,rfl,w⟩:=eP r;cases w;obtain⟨l,m,A,F⟩:=I.list (uh e);have v:IntsAre l z:=yi m;have y:=m.length;rw[P0]at y;refine sorted_ints A.isList v #[0] λd g k t B=>?_;have j:∀ b o,s.heap.get? b=some o->(sortedAll s.heap l d).get? b=some o:=λb o e=>sortedAll_old e;obtain⟨n,i⟩:=sortedAll_at s.heap l d;have c:H (s.heap.objs.size+1)=none:=I.hok.fresh (R5 _)
   have f:(g.map V.int).length<=sizeLine:=by
    rw[P0,t.length_eq];exact QT (Nat.lt_trans x #[1])
   refine⟨.ref (s.heap.objs.size+1),_,I.laid (t':=s.toks) (a:=s.heap.objs.size+1) (o:=.lst (g.map V.int)) j (R5 _) ⟨f,d.toList,n,uf k,?_⟩,rfl,q g _ c t B⟩;rw[i]
 . exact h.elim
def oq(H:Hp):V->Option String
 | .non=>some "NoneType"
 | .bl _=>some "bool"
 | .int _=>some "int"
 | .str _=>some "str"
 | .ref p=>match H p with
  | ↥_=>some "list"
  | some (.frz _ (.lst _))=>some "list"
  | some (.tup _)=>some "tuple"
  | some (.dK _)=>some "dict"
  | _=>none
 | _=>none
def isTy(t n:String):Bool:=t==n||(t=="bool"&&n=="int")
def vO(n:String):Bool:=["int","bool","str","list","tuple","dict"].contains n
theorem G9{K:Frag}{H:Hp}{x:V}{t:String}(h:oq H x=some t):TyOf K H x (.type t)/\["NoneType","int","bool","str","list","tuple","dict"].contains t=true:=by
 cases x with
 | non=>cases h;exact⟨.non,by decide⟩
 | bl b=>cases h;exact⟨.bl b,by decide⟩
 | int i=>cases h;exact⟨.int i,by decide⟩
 | str i=>cases h;exact⟨.str i,by decide⟩
 | byt _=>cases h
 | flt _=>cases h
 | ty _=>cases h
 | ref p=>
  unfold oq at h;dsimp only at h
  split at h
  . rename_i e;cases h;exact⟨.lst e,by decide⟩
  . rename_i e;cases h;exact⟨.frz e,by decide⟩
  . rename_i e;cases h;exact⟨.tup e,by decide⟩
  . rename_i e;cases h;exact⟨.dK e,by decide⟩
  . cases h
def K6(K:Frag):∀ t∈["NoneType","int","bool","str","list","tuple","dict"],∀ n∈["int","bool","str","list","tuple","dict"],PySem.W.kitOne K (.type t) (.type n)=some (isTy t n):=by
 intro t a n b;simp only[Qs,Rf,Sn]at a b;rcases a with rfl | rfl | rfl | rfl | rfl | rfl | rfl <;> rcases b with rfl | rfl | rfl | rfl | rfl | rfl <;> rfl
def kIsi:List V->Hp->VK->Prop
 | [x,.ty n],H,Q=>vO n=true/\bnd (oq H x) λt=>Q (.bl (isTy t n)) H
 | _,_,_=>False
def dq:CallR X (.builtin "isinstance") kIsi:=by
 intro j s σ H xs i Q I r h;unfold kIsi at h
 split at h
 . obtain⟨d,h⟩:=h;obtain⟨t,b,q⟩:=bu h;obtain⟨u,w,rfl,f,a⟩:=vJ r;cases a;obtain⟨g,e⟩:=G9 (K:=X.K) b;exact GW I f g (K6 X.K t (by simpa using e) _ (by simpa [vO] using d)) λc=>⟨.bl _,H,I.tok c,rfl,q⟩
 . exact h.elim
def cj:V->List V->Hp->VK->Prop
 | .ref l,[y],H,Q=>bnd (unM (H l)) λxs=>xs.length<sizeLine/\Q .non (upd H l (.lst (xs++[y])))
 | _,_,_,_=>False
def di:MtR X "list.append" cj:=by
 intro c s σ H x vs v b Q I d a h;unfold cj at h
 split at h
 . obtain⟨xs,e,h1,q⟩:=bu h;exact AT c s σ H _ _ v b Q I d a ⟨_,xs,_,rfl,rfl,jB e,h1,q⟩
 . exact h.elim
def vP:V->List V->Hp->VK->Prop
 | .ref l,[.ref b],H,Q=>bnd (unM (H l)) λxs=>bnd (unM (H b)) λa=>xs.length+a.length<=sizeLine/\Q .non (upd H l (.lst (xs++a)))
 | _,_,_,_=>False
def FM:MtR X "list.extend" vP:=by
 intro f s σ H x vs v c Q I b a h;unfold vP at h
 split at h
 . obtain⟨xs,e,h⟩:=bu h;obtain⟨d,e2,h1,q⟩:=bu h;exact G0 f s σ H _ _ v c Q I b a ⟨_,_,xs,d,rfl,rfl,jB e,jB e2,h1,q⟩
 . exact h.elim
def cC{K:Frag}{H:Hp}{p:Addr}{xs:List V}(h:H p=↥xs):tyV K "list" (.ref p) H:=.inl ⟨rfl,_,Qh h⟩
def cSl:V->Option Int->Option Int->Hp->VK->Prop
 | .ref p,lo,hi,H,Q=>bnd (unL (H p)) λxs=>∀ l,H l=none->Q (.ref l) (upd H l (.lst (cutV xs lo hi)))
 | _,_,_,_,_=>False
def Mp:SlR X cSl:=by
 intro l s σ H x v i j k c f Q I g d a b h;unfold cSl at h
 split at h
 . obtain⟨xs,e,q⟩:=bu h;exact JL l s σ H _ v i j k c f Q I g d a b ⟨_,xs,rfl,uh e,q⟩
 . exact h.elim
end
structure Cal(P:Program)(w:World)(K:Frag)(mg:Str->Option Value)(base:Heap)(k:Nat)(x:Str)(ps:List Str)(sp:Sp):Prop where
 ex:∃(f:Addr) (fd:FuncData),FnOk P w K mg base CX0 k f fd ps sp/\mg x=↑f/\keepIn K (.ref f)=true/\Binds K fd ps []
def Ha {X:Cx} {k n:Nat} {x:Str} {l:List Str} {sp:Sp} {p pos:Pos} {e:Expr} {a:List Expr} {t:TA} (C:Cal X.prog X.w X.K X.mg X.base k x l sp) (o:Room n X.A) (j:k<=n) (g:Gl X x) (m:PA X (e::a) t)
  (d:(x==("__debug__":Str))=false:=by decide) (i:starEach (e::a) X.env=(false,eval e X.env)::starEach a X.env:=by rfl) (b:(backTo pos (starEach a X.env)).any (·.1)=false:=by rfl):
  PE X (.Call (.Name x p) (e::a) [] pos) (tCall sp [] E0 t):=by
 obtain⟨f,r,F,q,c,h⟩:=C.ex;exact JI F (o.mono j) g q c h .nil B0 m d i b
def aI:bootBuiltins "len"=some (.builtin "len"):=by decide+kernel
def yq:bootBuiltins "min"=some (.builtin "min"):=by decide+kernel
def K7:bootBuiltins "max"=some (.builtin "max"):=by decide+kernel
def Hc:bootBuiltins "sorted"=some (.builtin "sorted"):=by decide+kernel
def Cm:bootBuiltins "any"=some (.builtin "any"):=by decide+kernel
def aK:bootBuiltins "isinstance"=some (.builtin "isinstance"):=by decide+kernel
def ck:bootBuiltins "list"=some (.type "list"):=by decide+kernel
def Cn:bootBuiltins "int"=some (.type "int"):=by decide+kernel
def EZ:bootBuiltins "bool"=some (.type "bool"):=by decide+kernel
def kD:bootBuiltins "str"=some (.type "str"):=by decide+kernel
def or:bootBuiltins "tuple"=some (.type "tuple"):=by decide+kernel
def compN(scope:Scope):List Str:=(scope.names.filter λp=>p.2==.local||p.2==.cell||p.2==.free).map (·.1)
def yr(N:List Str)(scope:Scope):List (Option Nat):=(compN scope).map λx=>if scope.names.lookup x==some .free then N.findIdx? (· ==x) else none
def isCF:Option NameKind->Bool
 | some .cell=>true
 | some .free=>true
 | _=>false
def K8{X:Cx}{scope:Scope}(h1:scope.kind=.function)(h2:(scope.names.map (·.1)).Nodup)(h3:(scope.names.all λp=>p.2 != .free||isCF (X.env.kindOf p.1))=true):BlkOk X (compN scope) (yr X.N scope) scope where
 kind:=h1
 nd:=h2.sublist (List.Sublist.map _ (List.filter_sublist ..))
 len:=by unfold yr;rw[P0]
 names:=h2
 free:=λx b=>by
  have:=Qj.mp h3 (x,.free) b;simp only[bne_self_eq_false,Rq]at this;unfold isCF at this
  split at this
  . rename_i e;exact .inl e
  . rename_i e;exact .inr e
  . cases this
 at_:=λj i x e1 e2=>by
  unfold yr at e2;rw[P5,e1]at e2;simp only[Option.map_some,Option.some.injEq]at e2
  split at e2
  . rename_i d
    obtain⟨a,c,_⟩:=List.findIdx?_eq_some_iff_getElem.mp e2
    have b:X.N[i]? =some x:=by
     rw[P1 a];have:X.N[i]=x:=by simpa using c
     rw[this]
    refine⟨b,Rh (by simpa using d)⟩
  . cases e2
section
variable{t u:TS}{D:Ends}{σ:St}{H:Hp}{Q:VK}{ta tb:TE}{R:Bool->Hp->Prop}{c d:TT}
def ax:tSeq t u D σ H=t {D with nx:=u D} σ H:=rfl
def cD:tNext D σ H=D.nx σ H:=rfl
def bP{g:TG}:tAsg ta g D σ H=ta σ H λx a=>g x σ a D.nx:=rfl
def aP{i:Nat}{v:V}{k:St->Hp->Prop}:gName i v σ H k=k (σ.set i (some v)) H:=rfl
def Jw{i:Nat}:tVar i σ H Q=∃ v,σ[i]? =some (some v)/\Q v H:=propext ⟨Jt,λ⟨_,e,h⟩=>rY e h⟩
def cF{v:V}{σ:St}:tVar 0 (some v::σ) H Q=Q v H:=rfl
def cG{i:Nat}{a:Option V}{σ:St}:tVar (i+1) (a::σ) H Q=tVar i σ H Q:=rfl
def w_c{v:V}:tC v σ H Q=Q v H:=rfl
def fU{r:R2}:tOp r ta tb σ H Q=ta σ H λx b=>tb σ b λy a=>r x y a Q:=rfl
def cH:tRet ta D σ H=ta σ H D.rt:=rfl
def cS:tRetN D σ H=D.rt .non H:=rfl
def cm:tDrop ta D σ H=ta σ H λ_ a=>D.nx σ a:=rfl
def az:tIfS c t u D σ H=c σ H λb a=>if b=true then t D σ a else u D σ a:=rfl
def cI:tTest ta σ H R=ta σ H λx a=>∃ k,x=.bl k/\R k a:=rfl
def w_b:tB ta σ H R=ta σ H λx a=>∃ k,x=.bl k/\R k a:=rfl
def w_not:tNot c σ H R=c σ H λk a=>R (!k) a:=rfl
def eQ:tAnd c d σ H R=c σ H λk a=>if k=true then d σ a R else R false a:=rfl
def g9:tOr c d σ H R=c σ H λk a=>if k=true then R true a else d σ a R:=rfl
def cT:tNotV ta σ H Q=ta σ H λx a=>∃ c,x=.bl c/\Q (.bl (!c)) a:=rfl
def cU:tAndV ta tb σ H Q=ta σ H λx a=>∃ c,x=.bl c/\if c=true then tb σ a Q else Q (.bl false) a:=rfl
def eX:tOrV ta tb σ H Q=ta σ H λx a=>∃ c,x=.bl c/\if c=true then Q (.bl true) a else tb σ a Q:=rfl
def dj{k:List V->Hp->Prop}:tNil σ H k=k [] H:=rfl
def bO{a:TA}{k:List V->Hp->Prop}:tCons ta a σ H k=ta σ H λx c=>a σ c λxs b=>k (x::xs) b:=rfl
def gD{r:List V->Hp->VK->Prop}{a:TA}:tCB r a σ H Q=a σ H λvs b=>r vs b Q:=rfl
def cJ{sp:Sp}{a:List V}{E:XK}{b:TA}:tCall sp a E b σ H Q=b σ H λvs c=>sp (vs++a) c Q E:=rfl
def e6{a:TA}:tTup a σ H Q=a σ H λxs b=>xs.length<=sizeLine/\∀ p,b p=none->Q (.ref p) (upd b p (.tup xs)):=rfl
def dy{a:TA}:tLst a σ H Q=a σ H λxs b=>xs.length<=sizeLine/\∀ p,b p=none->Q (.ref p) (upd b p (.lst xs)):=rfl
def gt{K:Frag}{T:String}{r:V->List V->Hp->VK->Prop}{a:TA}:tBM K T r ta a σ H Q=ta σ H λx b=>tyV K T x b/\a σ b λxs c=>r x xs c Q:=rfl
def e7{K:Frag}{T:String}{r:V->List V->Hp->VK->Prop}:Cd K T r ta σ H Q=ta σ H λx a=>tyV K T x a/\r x [] a Q:=rfl
def cK:tTrue σ H R=R true H:=rfl
def cV:K2 σ H Q=∀ p,H p=none->Q (.ref p) (upd H p (.dK [])):=rfl
def cW{d e b:TE}:sDPut d e b D σ H=b σ H λv g=>d σ g λx f=>e σ f λy h=>∃ a c,x=.ref a/\DPut h a y v c/\D.nx σ c:=rfl
def e9{i j:Int}:cAdd (.int i) (.int j) H Q=Q (.int (i+j)) H:=rfl
def fc{i j:Int}:cSub (.int i) (.int j) H Q=Q (.int (i-j)) H:=rfl
def fe{i j:Int}:cMul (.int i) (.int j) H Q=(CMul i j/\Q (.int (i*j)) H):=rfl
def fg{i j:Int}:cDiv (.int i) (.int j) H Q=(CDiv i j/\Q (.int (i/j)) H):=rfl
def fh{i j:Int}:cMod (.int i) (.int j) H Q=(0<j/\Q (.int (i%j)) H):=rfl
def fj{g:Int->Int->Bool}{i j:Int}:cCmp g (.int i) (.int j) H Q=Q (.bl (g i j)) H:=rfl
def fk{K:Frag}{i j:Int}:cEq K (.int i) (.int j) H Q=Q (.bl (decide (i=j))) H:=rfl
def fm{K:Frag}{i j:Int}:cNe K (.int i) (.int j) H Q=Q (.bl (!decide (i=j))) H:=rfl
def fq{K:Frag}{i j:Bool}:cEq K (.bl i) (.bl j) H Q=Q (.bl (decide (i=j))) H:=rfl
def fu{K:Frag}{i j:Bool}:cNe K (.bl i) (.bl j) H Q=Q (.bl (!decide (i=j))) H:=rfl
def jP{p:Addr}{i:Int}{xs:List V}(h:H p=some (.tup xs)):cIx (.ref p) (.int i) H Q=bnd (atI xs i) λv=>Q v H:=by
 unfold cIx;dsimp only;rw[h];rfl
def Jx{p:Addr}{i:Int}{xs:List V}(h:H p=↥xs):cIx (.ref p) (.int i) H Q=bnd (atI xs i) λv=>Q v H:=by
 unfold cIx;dsimp only;rw[h];rfl
def fv{i:Int}:kAbs [.int i] H Q=Q (.int (if i<0 then -i else i)) H:=rfl
def fz{i j:Int}:kMin [.int i,.int j] H Q=Q (.int (if j<i then j else i)) H:=rfl
def aO{p:Addr}{xs:List V}(h:H p=↥xs):kLen [.ref p] H Q=Q (.int xs.length) H:=by
 unfold kLen;dsimp only;rw[h];rfl
def Co{p:Addr}{xs:List V}(h:H p=some (.tup xs)):kLen [.ref p] H Q=Q (.int xs.length) H:=by
 unfold kLen;dsimp only;rw[h];rfl
def lZ{p:Addr}{xs:List V}{y:V}(h:H p=↥xs):cj (.ref p) [y] H Q=(xs.length<sizeLine/\Q .non (upd H p (.lst (xs++[y])))):=by
 unfold cj;dsimp only;rw[h];rfl
theorem ui:∀ ns:∅,(ns.map V.int).all flatV=true
 | []=>rfl
 | n::r=>by rw[QJ,SU,ui r];rfl
theorem xj(i:Int):∀ ns:∅,inV (.int i) (ns.map V.int)=decide (i∈ns)
 | []=>by simp[inV]
 | n::r=>by
  have a:=xj i r;unfold inV at a ⊢;rw[QJ,Sc,a];show((n==i)||decide (i∈r))=decide (i∈n::r);rw[Qx,TZ,RV,P6,P6,Qs];exact⟨λh=>h.elim (λe=>.inl e.symm) .inr,λh=>h.elim (λe=>.inl e.symm) .inr⟩
def ot{K:Frag}{p:Addr}{i:Int}{ns:∅}(h:H p=↥(ns.map V.int)):cIn K false (.int i) (.ref p) H Q=Q (.bl (decide (i∈ns))) H:=by
 unfold cIn;dsimp only;rw[h];dsimp only[unD,unS,bnd];rw[xj,ui];simp[flatV]
def jJ{K:Frag}{p:Addr}{i:Int}{ns:∅}(h:H p=↥(ns.map V.int)):cIn K true (.int i) (.ref p) H Q=Q (.bl (!decide (i∈ns))) H:=by
 unfold cIn;dsimp only;rw[h];dsimp only[unD,unS,bnd];rw[xj,ui];simp[flatV]
end
def LoopR(J:It)(g:TG)(e:TS)(D:Ends)(σ:St)(h:Hp):Prop:=∃ W:Nat->Nat->St->Hp->Prop,(∃ m,W 0 m σ h)/\∀ i m σ H,W i m σ H->
 (J.stop i H/\D.nx σ H)\/(J.go i H/\∃ N:St->Hp->Prop,(∀ c a,N c a->∃ b,b<m/\W (i+1) b c a)/\∀ x a,J.yld i H x a->g x σ a λf d=>e {D with nx:=N,ct:=N,bk:=D.nx} f d)
def CompR(J:It)(g:TG)(u:TT)(r:TE)(f:Addr->Hp->Prop)(s:St)(o:Hp):Prop:=∀ l,o l=none->
 ∃ W:Nat->Nat->St->Hp->Prop,(∃ m,W 0 m s (upd o l (.lst [])))/\∀ i m q c,W i m q c->
  (J.stop i c/\f l c)\/(J.go i c/\∃ N:St->Hp->Prop,(∀ d a,N d a->∃ p,p<m/\W (i+1) p d a)/\∀ x n,J.yld i c x n->g x q n λe t=>u e t λb k=>
   if b=true then r e k λy j=>∃ h,j l=↥h/\h.length<sizeLine/\N e (upd j l (.lst (h++[y]))) else N e k)
section
variable{K:Frag}{g:TG}{tb:TS}{D:Ends}{σ:St}{H:Hp}{tl:TE}{ta:TA}{ix:List (Option Nat)}{tt:TT}{te:TE}{k:Nat}{Q:VK}
def cX:tFor (iList K tl) g tb D σ H=tl σ H λx b=>∃ a,x=.ref a/\(∃ xs,SqL K b a xs)/\LoopR (Itl K a) g tb D σ b:=rfl
def bR:tFor (gc ta) g tb D σ H=ta σ H λvs a=>∃ j:Int,vs=[.int j]/\ -(2^62)<=j/\j<2^62/\LoopR (Itr 0 j.toNat) g tb D σ a:=rfl
def bS:tFor (rZ ta) g tb D σ H=ta σ H λvs a=>∃ i j:Int,vs=[.int i,.int j]/\(-(2^62)<=i/\i<2^62/\ -(2^62)<=j/\j<2^62)/\LoopR (Itr i (j-i).toNat) g tb D σ a:=rfl
def bE:tComp ix (iList K tl) g tt te σ H Q=tl σ H λx b=>∃ a,x=.ref a/\(∃ xs,SqL K b a xs)/\CompR (Itl K a) g tt te (λl c=>Q (.ref l) c) (subσ ix σ) b:=rfl
def bF:tComp ix (gc ta) g tt te σ H Q=ta σ H λvs b=>∃ j:Int,vs=[.int j]/\ -(2^62)<=j/\j<2^62/\CompR (Itr 0 j.toNat) g tt te (λl a=>Q (.ref l) a) (subσ ix σ) b:=rfl
def bG:sComp k ix (iList K tl) g tt te D σ H=tl σ H λx b=>∃ a,x=.ref a/\(∃ xs,SqL K b a xs)/\CompR (Itl K a) g tt te (λl c=>D.nx (σ.set k ↑l) c) (subσ ix σ) b:=rfl
def bv:sComp k ix (gc ta) g tt te D σ H=ta σ H λvs b=>∃ j:Int,vs=[.int j]/\ -(2^62)<=j/\j<2^62/\CompR (Itr 0 j.toNat) g tt te (λl a=>D.nx (σ.set k ↑l) a) (subσ ix σ) b:=rfl
def si {r:Int} {n:Nat} {h:Addr->Hp->Prop} {q:St} {f:Hp} (a:Addr->Nat->St->Hp->Prop) (h0:∀ l,f l=none->a l 0 q (upd f l (.lst [])))
  (t:∀ l i σ H,f l=none->i<n->a l i σ H->g (.int (r+i)) σ H λj u=>tt j u λb o=>if b=true then te j o λy k=>∃ ys,k l=↥ys/\ys.length<sizeLine/\a l (i+1) j (upd k l (.lst (ys++[y]))) else a l (i+1) j o)
  (w:∀ l σ H,f l=none->a l n σ H->h l H):CompR (Itr r n) g tt te h q f:=by
 intro l c;refine⟨λi m σ H=>m=n-i/\i<=n/\a l i σ H,⟨n,by simp,QI _,h0 l c⟩,?_⟩;rintro i m σ H ⟨rfl,z,p⟩;by_cases d:i<n
 . refine .inr ⟨d,a l (i+1),λA v s=>⟨n - (i+1),by omega,rfl,d,s⟩,λx v y=>?_⟩;obtain⟨e,y⟩:=y;subst e y;exact t l i σ _ c d p
 . have e:i=n:=by omega
   subst e;exact .inl ⟨Qd _,w l σ H c p⟩
def uj {a:Addr} {xs:List V} {j:Addr->Hp->Prop} {r:St} {f:Hp} (d:Addr->Nat->St->Hp->Prop) (h0:∀ l,f l=none->d l 0 r (upd f l (.lst []))) (u:∀ l i σ H,f l=none->i<=xs.length->d l i σ H->SqL K H a xs)
  (v:∀ l i x σ H,f l=none->xs[i]? =some x->d l i σ H->g x σ H λk w=>tt k w λb o=>if b=true then te k o λy n=>∃ ys,n l=↥ys/\ys.length<sizeLine/\d l (i+1) k (upd n l (.lst (ys++[y]))) else d l (i+1) k o)
  (A:∀ l σ H,f l=none->d l xs.length σ H->j l H):CompR (Itl K a) g tt te j r f:=by
 intro l c;refine⟨λi m σ H=>m=xs.length-i/\i<=xs.length/\d l i σ H,⟨xs.length,by simp,QI _,h0 l c⟩,?_⟩;rintro i m σ H ⟨rfl,s,p⟩;have q:=u l i σ H c s p;by_cases h:i<xs.length
 . refine .inr ⟨⟨xs,xs[i],q,by simp[h]⟩,d l (i+1),λB z t=>⟨xs.length - (i+1),by omega,rfl,h,t⟩,λx z y=>?_⟩;obtain⟨e,y⟩:=y;subst e;exact v l i x σ _ c (y xs q) p
 . have e:i=xs.length:=by omega
   subst e;exact .inl ⟨⟨xs,q,Qd _⟩,A l σ H c p⟩
def pr{p q:Addr}{xs ys:∅}(b:H p=↥(xs.map V.int))(a:H q=↥(ys.map V.int))(h:Q (.bl (decide (xs=ys))) H):cEq K (.ref p) (.ref q) H Q:=by
 show rEqD K (.ref p) (.ref q) H Q;refine⟨.list (xs.map PyData.int),.list (ys.map PyData.int),.lst (Qh b) (.ints xs),.lst (Qh a) (.ints ys),mG xs,mG ys,?_⟩;rw[PyData.eqv,se];exact h
def yt{p q:Addr}{xs ys:∅}(b:H p=↥(xs.map V.int))(a:H q=↥(ys.map V.int))(h:Q (.bl (!decide (xs=ys))) H):cNe K (.ref p) (.ref q) H Q:=by
 show rNeD K (.ref p) (.ref q) H Q;refine⟨.list (xs.map PyData.int),.list (ys.map PyData.int),.lst (Qh b) (.ints xs),.lst (Qh a) (.ints ys),mG xs,mG ys,?_⟩;rw[PyData.eqv,se];exact h
def iF{p:Addr}{xs:List V}(a:H p=↥xs)(h:∀ l,H l=none->Q (.ref l) (upd H l (.lst xs))):kList [.ref p] H Q:=by
 unfold kList;dsimp only;rw[a];exact h
end
def aE{X:Cx}{N:List Str}{ix:List (Option Nat)}{scope:Scope}(h1:scope.kind=.function)(h2:(scope.names.map (·.1)).Nodup)(h3:(scope.names.all λp=>p.2 != .free||isCF (X.env.kindOf p.1))=true)(h4:N=compN scope)(h5:ix=yr X.N scope):BlkOk X N ix scope:=by
 subst h4 h5;exact K8 h1 h2 h3
def kLenS(K:Frag):List V->Hp->VK->Prop:=λxs H Q=>∃ p a,xs=[.ref p]/\(SqL K H p a\/SqT K H p a)/\Q (.int a.length) H
structure Bt(mg:Str->Option Value):Prop where
 len_:mg "len"=none
 abs_:mg "abs"=none
 min_:mg "min"=none
 max_:mg "max"=none
 sorted_:mg "sorted"=none
 any_:mg "any"=none
 isinstance_:mg "isinstance"=none
 list_:mg "list"=none
 int_:mg "int"=none
 bool_:mg "bool"=none
 str_:mg "str"=none
 tuple_:mg "tuple"=none
 reversed_:mg "reversed"=none
 set_:mg "set"=none
 range_:mg "range"=none
 zip_:mg "zip"=none
theorem Vals.get':∀{xs:List V} {us:List Value} {i:Nat} {u:Value},Vals xs us->us[i]? =some u->∃ x,xs[i]? =some x/\RelV x u
 | _,_,_,_,.nil,h=>by simp at h
 | _,_,0,_,.cons r _,h=>by simp at h;subst h;exact⟨_,rfl,r⟩
 | _,_,i+1,_,.cons _ t,h=>by
  obtain⟨x,a,r⟩:=Vals.get' (i:=i) t (by simpa using h);exact⟨x,by simpa using a,r⟩
section
variable{X:Cx}{PN:List (Addr × Obj)}{σ:St}{H:Hp}{s s':Shared}
def Inv.kept'(I:Inv X PN σ H s)(k:∀ b u,s.heap.get? b=some u->s'.heap.get? b=some u)(c:s'.os=s.os)(a:AllBare s'.gens):Inv X PN σ H s':=
 I.call' (ch:=[]) c (Un.kept k) (I.hok.kept k) a λb z=>absurd z (by simp)
def Inv.walked{l:Addr}{o:Obj}(I:Inv X PN σ H s)(c:Moved [s.heap.objs.size] (λa b=>b=a) {s with heap:=s.heap.push o} s'):Inv X PN σ H s':=by
 refine I.kept' (λb u e=>c.heap b u (λz=>?_) (Qb _ e)) c.os (by rw[show s'.gens=s.gens from c.gens];exact I.bare);have:b=s.heap.objs.size:=by simpa using z
 exact absurd (Qo e) (by rw[this];exact Rv _)
def kAny:List V->Hp->VK->Prop
 | [.ref p],H,Q=>bnd (unL (H p)) λys=>∃ bs:List Bool,ys=bs.map V.bl/\Q (.bl (bs.any id)) H
 | _,_,_=>False
def Hd(bs:List Bool):(List.range bs.length).any (λi=>bs.getD i false)=bs.any id:=by
 rw[Qx,RZ,RZ];constructor
 . rintro⟨i,c,h⟩;have a:i<bs.length:=Qf.mp c;exact⟨bs[i],QE a,by simpa [List.getD,a] using h⟩
 . rintro⟨b,f,h⟩;obtain⟨i,c,e⟩:=RP.mp f;refine⟨i,Qf.mpr c,?_⟩;have d:b=true:=h;rw[List.getD,P1 c,e];exact d
def uk(t:X.calm=true):CallR X (.builtin "any") kAny:=by
 intro PN s σ H xs D Q I r h;unfold kAny at h
 split at h
 . rename_i p
   obtain⟨F,e,a,rfl,q⟩:=bu h;obtain⟨u,rfl,n⟩:=eP r;cases n;obtain⟨c,g,f,K⟩:=I.list (uh e);have j:=g.length;rw[P0]at j
   have d:p<s.heap.objs.size:=by
    obtain⟨o,h1,_⟩:=f.isList;exact Qo h1
   refine call_any_walkS (Su f.isList ?_);refine⟨s.heap.objs.size,_,_,_,c.toArray.size,_,_,λi=>a.getD i false,rfl,(Walks.list (A:=X.A.in1) (I.ok.hd t) s.heap.objs.size p (QH d) c.toArray).toS,⟨⟨_,QG _ rfl,rfl,rfl⟩,f.isList.push _⟩,?_,λs' B=>?_⟩
   . intro i v J G E C k;have m:c[i]? =some v:=by simpa using C
     obtain⟨x,z,w⟩:=g.get' m;obtain⟨b,hb,rfl⟩:∃ b,a[i]? =some b/\V.bl b=x:=by simpa using z
     cases w;refine Ri ?_;have y:a.getD i false=b:=by simp[List.getD,hb]
     rw[← y];exact k
   . refine⟨.bl _,H,I.walked (l:=p) B,?_,q⟩;have e2:c.toArray.size=a.length:=by rw[Ql];exact j.symm
     rw[e2,Hd];rfl
 . exact h.elim
def kE(K:Frag):V->List V->Hp->VK->Prop
 | .ref p,[y],H,Q=>∃(a:List PyData) (d:PyData) (j:Nat),DV K H (.ref p) (.list a)/\DV K H y d/\PyData.canLayAll0 a=true/\PyData.canLay0 d=true/\min (PyData.depthAll a) d.depth<=62/\
   j<=1000/\(∃ e,a[j]? =some e/\PyData.eqv e d=true)/\(∀ m e,m<j->a[m]? =some e->PyData.eqv e d=false)/\Q (.int j) H
 | _,_,_,_=>False
def mS(T:X.A.units+64<cLine):MtR X "list.index" (kE X.K):=by
 intro PN s σ H x vs v P Q I k E h;unfold kE at h
 split at h
 . rename_i p y
   obtain⟨B,d,j,L,G,z,N,t,S,⟨e,w,J⟩,i,q⟩:=h;cases k;obtain⟨u,rfl,C⟩:=eP E;obtain⟨R,M⟩:=L.reads I rfl;obtain⟨U,k⟩:=G.reads I C
   cases M with
   | @list _ o g n _ _ h1 h2 h3 h4=>
    obtain⟨W,D,O,r⟩:=o;dsimp only at h2 h3;subst h2 h3;have a:=SeqAt.readsAll_map B _ _ z h4
    have b:∀(m:Nat) (f:m<g.size),B[m]? =some (SeqAt.readOf s.heap g[m]):=λm f=>by
     rw[← a,P5,SD,Tn f];rfl
    have c:j<g.size:=by
     have:=(P8.mp w).1;rw[← a,P0,Sk]at this;exact this
    refine RW F.slot_list_index ⟨_,h1,rfl⟩ F.entry_list_index (F.args_list_index_2 _ _) (SeqAt.list_indexAt p g n D r u (λy=>PyData.eqv (SeqAt.readOf s.heap y) d) j c #[0] ?_ ?_) ⟨h1,SeqAt.items_eqAt h4 k z N ?_,⟨.int j,H,I.tok _,⟨_,rfl⟩,q⟩⟩
    . have:=b j c;rw[w]at this;cases this;exact J
    . intro m f l;exact i m _ l (b m f)
    . omega
 . exact h.elim
def K9{h:Heap}{a b:Addr}{o u:Obj}{c d:String}(i:h.get? a=some o)(e:h.get? b=some u)(g:o.cls=.type c)(f:u.cls=.type d)(j:c≠d):a≠b:=by
 rintro rfl;rw[i]at e;cases e;rw[g]at f;cases f;exact j rfl
end
open Builtin Builtin.Str
theorem z6:∀{ts:List Str} {us:List Value},Vals (ts.map V.str) us->∃ l:List (Str × Tok),us=strValues l/\l.map (·.1)=ts
 | [],_,.nil=>⟨[],rfl,rfl⟩
 | t::ts,_,.cons r rs=>by
  obtain⟨l,rfl,e⟩:=z6 (ts:=ts) rs;obtain⟨u,rfl⟩:=r;exact⟨(t,u)::l,rfl,by rw[QJ,e]⟩
theorem AV:∀(l:List (Str × Tok)),Vals ((l.map (·.1)).map V.str) (strValues l)
 | []=>.nil
 | (t,u)::l=>.cons ⟨u,rfl⟩ (AV l)
section
variable{X:Cx}
def kFind:V->List V->Hp->VK->Prop
 | .str x,[.str y],H,Q=>Q (.int (Txt.find x y)) H
 | _,_,_,_=>False
def yu:V->List V->Hp->VK->Prop
 | .str x,[.str y],H,Q=>(y.length==0)=false/\x.length<=sizeLine/\(Txt.split x y).length<=sizeLine/\∀ l,H l=none->Q (.ref l) (upd H l (.lst ((Txt.split x y).map V.str)))
 | _,_,_,_=>False
def He:MtR X "str.split" yu:=by
 intro n s σ H x vs v p Q I m i h;unfold yu at h
 split at h
 . rename_i x y
   obtain⟨t,rfl⟩:=m;obtain⟨u,rfl,j⟩:=eP i;obtain⟨c,rfl⟩:=j;obtain⟨d,o,f,q⟩:=h
   have a:∀(l:List (Str × Tok)) (k:Nat),l.map (·.1)=Txt.split x y->EP X n σ Q (.ref s.heap.objs.size) {s with heap:=s.heap.push {cls:=.type "list",data:=.seq (strValues l).toArray},toks:=k}:=λl k e=>by
    refine⟨.ref s.heap.objs.size,_,I.lnew (t':=k) (ys:=(Txt.split x y).map V.str) (PU:=strValues l) ?_ (by rw[P0];exact f),rfl,q _ I.fresh⟩;rw[← e];exact AV l
   cases h1:(decide (x.length<y.length)||decide (strKind x<strKind y))
   . cases b:(occurrences x y 0 x.length (x.length+1)).isEmpty
     . have g:Txt.split x y=partsBetween x (occurrences x y 0 x.length (x.length+1)) y.length:=(Qp (S1 h1)).trans (Qp (S1 b));refine RW TB (SN _ _ _) Ts (Tf _ _) (meets_str_split_sep x y t c h1 d b o (by rw[← g];exact f)) ?_;show wants _ _ _ {s with toks:=_,heap:=s.heap.push {cls:=.type "list",data:=.seq (strsFrom s.toks (partsBetween x (occurrences x y 0 x.length (x.length+1)) y.length)).toArray}};rw[strsFrom_eq];exact a (numbered s.toks _) _ ((numbered_texts _ _).trans g.symm)
     . exact RW TB (SN _ _ _) Ts (Tf _ _) (meets_str_split_not_found x y t c h1 d b)
        (a [(x,t)] s.toks ((Qp (S1 h1)).trans (Qt b)).symm)
   . exact RW TB (SN _ _ _) Ts (Tf _ _) (meets_str_split_cannot_occur x y t c h1)
      (a [(x,t)] s.toks (Qt h1).symm)
 . exact h.elim
def ou:V->Option Int->Option Int->Hp->VK->Prop
 | .ref p,lo,hi,H,Q=>cSl (.ref p) lo hi H Q
 | .str z,lo,hi,H,Q=>z.length<=sizeLine/\Q (.str (Txt.slice z lo hi)) H
 | _,_,_,_,_=>False
theorem sj:SlR X ou:=by
 intro w s σ H x v A B g e y Q I r b n d h
 cases x with
 | ref p=>exact Mp w s σ H _ v A B g e y Q I r b n d h
 | str z=>
  obtain⟨c,q⟩:=(show z.length<=sizeLine/\Q (.str (Txt.slice z g e)) H from h);obtain⟨t,rfl⟩:=r;have a:∀ m k,EP X w σ Q (.str (Txt.slice z g e) m) {s with toks:=k}:=λm k=>⟨.str _,H,I.tok k,⟨m,rfl⟩,q⟩;refine⟨"str",_,F.slot_str_getitem.lookup,SN _ _ _,?_⟩
  cases n with
  | none=>
   cases d with
   | none=>exact R0 (l:=none) (u:=none) (st:=none) b rfl (SY ⟨Qa (TJ z _ _) c,a⟩)
   | int j f=>exact R0 (l:=none) (u:=some (j,f)) (st:=none) b rfl (SY ⟨Qa (TJ z _ _) c,a⟩)
  | int i o=>
   cases d with
   | none=>exact R0 (l:=some (i,o)) (u:=none) (st:=none) b rfl (SY ⟨Qa (TJ z _ _) c,a⟩)
   | int j f=>exact R0 (l:=some (i,o)) (u:=some (j,f)) (st:=none) b rfl (SY ⟨Qa (TJ z _ _) c,a⟩)
 | _=>exact False.elim h
def Its(x:Str):It:=⟨λi _=>i<x.cps.size,λi H v a=>a=H/\∃ c,x.cps[i]? =some c/\v=.str ⟨#[c]⟩,λi _=>x.cps.size<=i⟩
def Cp {P:Program} {w:World} {K:Frag} {U:Expr} {x:Str} {t:Tok} (it:Addr) (l:String) (J:["enumerate","zip","dict_itemiterator","dict_reverseitemiterator","odict_iterator","itertools.zip_longest","itertools.pairwise"].contains l=false)
  (W:∀ A:Around,A.handled=none->Walks P w A it [it] [it] x.cps.size (SignAt x) (λi h=>h.IsStrIter it l x t i))
  (S:∀(A:Around) (i:Nat) (s:Shared) (Q:Value->Shared->Prop) (E:Value->Shared->Prop),s.heap.IsStrIter it l x t i->Q (.ref it) s->wpAny (model P w) A (pyIter (.ref it)) Q E s):
  Turn P w K U (Its x) [it] it (λi h=>i<=x.cps.size/\h.IsStrIter it l x t i) where
 mem:=by simp
 obj:=λi h a b f=>by
  have e:b=it:=by simpa using f
  subst e;obtain⟨_,o,e,c,d⟩:=a;exact⟨o,e,λv z=>by rw[d]at z;cases z⟩
 keep:=λi h n a k=>by
  obtain⟨Z,o,e,c,d⟩:=a;exact⟨Z,o,k it (by simp) o e,c,d⟩
 item:=by
  intro X O M C r i T s σ H E I m a p;subst O M C;obtain⟨q,F,f2,L,R,D⟩:=m it (by simp);have g:i<x.cps.size:=p;refine(W X.A (I.ok.hd r)).item i s _ _ g a.2 λv n B hv j G=>?_;obtain⟨c,u,N,rfl⟩:=hv;have I1:Inv X T σ H {s with heap:=n,toks:=B}:=I.turned (λb o f e=>G b o (by simpa using f) e) q F L R D;obtain⟨o,e,Y,d⟩:=id j;exact⟨_,rfl,BY (s:={s with heap:=n,toks:=B}) e Y d J ⟨.str ⟨#[c]⟩,H,I1,⟨u,rfl⟩,⟨rfl,c,N,rfl⟩,⟨g,j⟩,λb f=>(m b f).1⟩⟩
 done:=by
  intro X O M C r i T s σ H E I m a p;subst O M C;obtain⟨q,F,f2,L,R,D⟩:=m it (by simp);have y:x.cps.size<=i:=p;have e:i=x.cps.size:=Nat.le_antisymm a.1 y;subst e;exact(W X.A (I.ok.hd r)).done s _ _ a.2 λn B G=>⟨rfl,I.turned (λb o f e=>G b o (by simpa using f) e) q F L R D⟩
 self:=λA i s Q E a h=>S A i s Q E a.2 h
def iStr(a:TE):TI:=λσ H R=>a σ H λx b=>∃ z,x=.str z/\R (Its z) b
def La{r l:Expr}{n:TE}(y:PE X l n):PI X r l (iStr n):=by
 intro m s σ H R I h;refine thn (y m s σ H _ I h) λv a ⟨x,g,d,C,B⟩=>?_;obtain⟨z,rfl,q⟩:=B;obtain⟨t,rfl⟩:=C
 have c:∀ b∈[a.heap.objs.size],FpOk X m g b:=λb u=>by
  have e:b=a.heap.objs.size:=by simpa using u
  subst e;exact d.fpOk (Qd _) (d.hok.fresh (Qd _))
 cases p:z.cps.all (· < 128)
 . refine wpAny_pyIter_wide p ⟨a.heap.objs.size,[a.heap.objs.size],_,Its z,g,rfl,d.kept (t':=a.toks) λb o e=>Qb _ e,Cp (t:=t) _ "str_iterator" #[1] (λw j=>Walks.strWide j _ z t) (λA i s Q E k f=>wpAny_pyIter_striter_wide k f),⟨QI _,_,QG _ rfl,rfl,rfl⟩,c,q⟩
 . refine wpAny_pyIter_ascii p ⟨a.heap.objs.size,[a.heap.objs.size],_,Its z,g,rfl,d.kept (t':=a.toks) λb o e=>Qb _ e,Cp (t:=t) _ "str_ascii_iterator" #[1] (λw j=>Walks.strAscii j _ z t) (λA i s Q E k f=>wpAny_pyIter_striter_ascii k f),⟨QI _,_,QG _ rfl,rfl,rfl⟩,c,q⟩
def El {prog:Program} {w:World} {A:Around} {E:Value->Shared->Prop} {s:Shared} {l:Addr} {a:Array Value} {k:Int} {t:Tok} {v:Value} {Q:Unit->Shared->Prop} (c:s.heap.IsList l a)
  (h0:0<=k) (b:k<2^63) (i:k<a.size)
  (e:Q () {s with heap:=s.heap.update l (Obj.mapSeq (·.setIfInBounds k.toNat v))}):
  wpAny (model prog w) A (setItem (.ref l) (.int k t) v) Q E s:=by
 obtain⟨o,g,m,n,f⟩:=id c;unfold setItem
 try with_reducible refine SS ?_
 first | refine Qq (QN ?_) | skip
 refine Qq (wpAny_sequenceKey c.typeIs #[1] ?_)
 refine Qq (wpAny_callSpecial?_slot (name:=Str.ofString "__setitem__") c.typeIs slot_list_setitem
  (wpAny_call_entry slot_list_setitem c.typeIs entry_list_setitem ?_ (args_list_setitem _ _ _)))
 show wpAny _ _ (Builtin.List.listSubscript? (.int k t) >>= _) _ _ s;refine Qq (wpAny_listSubscript_int (fitsIndex_of h0 b) ?_)
 clear b
 obtain⟨j,rfl⟩:=Rj h0;have h:j<a.size:=by omega
 have d:a[j]? =some a[j]:=Tn h;show wpAny _ _ ((seqItemAt l j >>= λr=>pure (r.map (j,·))) >>= _) _ _ s;refine Qq (Qq (wpAny_seqItemAt g f (QN ?_)));rw[d];show wpAny _ _ (setSeqItemAt l j v >>= _) _ _ s;refine Qq (wpAny_setSeqItemAt g f ?_)
 first
  | exact Qq (QN (QN ⟨.none,rfl,QN e⟩))
  | exact QN ⟨.none,rfl,QN e⟩
theorem Cq:∀{xs:List V} {us:List Value} {x:V} {u:Value} (i:Nat),Vals xs us->RelV x u->Vals (xs.set i x) (us.set i u)
 | _,_,_,_,_,.nil,_=>.nil
 | _,_,_,_,0,.cons _ t,r=>.cons r t
 | _,_,_,_,i+1,.cons q t,r=>.cons q (Cq i t r)
def cPut:TSet
 | .ref p,y,v,H,Q=>(match unD (H p) with
  | some _=>∃ a,DPut H p y v a/\Q a
  | none=>match y with
   | .int i=>bnd (unM (H p)) λxs=>0<=i/\i<xs.length/\Q (upd H p (.lst (xs.set i.toNat v)))
   | _=>False)
 | _,_,_,_,_=>False
theorem B1(w:X.A.units+64<cLine):PSet X cPut:=by
 intro E s σ H o i v C y u Q I k c b h
 cases o with
 | ref p=>
  cases k;unfold cPut at h;dsimp only at h
  split at h
  . obtain⟨x,g,q⟩:=h;exact G2 (Rn (Sm (by decide:1<=64) _) w) I g c b λB m=>⟨x,m,q⟩
  . split at h
    . rename_i i
      obtain⟨xs,e,h0,h1,q⟩:=bu h;obtain⟨t,rfl⟩:=c;have d:=jB e;obtain⟨z,a,n,r,f,j⟩:=I.lstM d;have l:s.heap.IsList p a.toArray:=⟨_,j,rfl,n,rfl⟩;have D:a.length<=sizeLine:=by rw[← f];exact z
      refine El l h0 ?_ (by rw[Ql,← f];exact h1) ⟨_,I.lset (t':=s.toks) (ys:=xs.set i.toNat v) (its':=a.set i.toNat u) d j (by simp) (Cq _ r b) (by rw[SZ];exact z),q⟩;have:(sizeLine:Int)<2^63:=by decide
      omega
    . exact h.elim
 | _=>exact False.elim h
end
section
variable{K:Frag}{g:TG}{tb:TS}{D:Ends}{σ:St}{H:Hp}{tl:TE}{ix:List (Option Nat)}{tt:TT}{te ta:TE}{k:Nat}{Q:VK}
def hJ{r:V->Option Int->Option Int->Hp->VK->Prop}{a b:TO}:tSl r te a b σ H Q=te σ H λx e=>a σ e λl d=>b σ d λu c=>r x l u c Q:=rfl
def cY{R:Option Int->Hp->Prop}:tPart te σ H R=te σ H λx a=>∃ i,x=.int i/\R (some i) a:=rfl
def bH{R:Option Int->Hp->Prop}:kj σ H R=R none H:=rfl
def cZ{b a:TE}{t:TSet}{v:V}{R:St->Hp->Prop}:gSub b a t v σ H R=b σ H λo d=>a σ d λi c=>t o i v c λe=>R σ e:=rfl
def hX{r:V->Hp->VK->Prop}:tUn r te σ H Q=te σ H λx a=>r x a Q:=rfl
def c5:tFor (iStr tl) g tb D σ H=tl σ H λx a=>∃ z,x=.str z/\LoopR (Its z) g tb D σ a:=rfl
def bT:tComp ix (iStr tl) g tt te σ H Q=tl σ H λx b=>∃ z,x=.str z/\CompR (Its z) g tt te (λl a=>Q (.ref l) a) (subσ ix σ) b:=rfl
def bI:sComp k ix (iStr tl) g tt te D σ H=tl σ H λx b=>∃ z,x=.str z/\CompR (Its z) g tt te (λl a=>D.nx (σ.set k ↑l) a) (subσ ix σ) b:=rfl
def FN{x:Str}:tyV K "str" (.str x) H:=rfl
def fA{i j:Str}:cEq K (.str i) (.str j) H Q=Q (.bl (decide (i=j))) H:=rfl
def fC{i j:Str}:cNe K (.str i) (.str j) H Q=Q (.bl (!decide (i=j))) H:=rfl
def c6{z:Str}:kLen [.str z] H Q=(z.length<=sizeLine/\Q (.int z.length) H):=rfl
def cL{i j:Str}:cAdd (.str i) (.str j) H Q=(i.length+j.length<=sizeLine/\Q (.str (i++j)) H):=rfl
def L7{z:Str}{i:Int}:cIx (.str z) (.int i) H Q=(z.length<=sizeLine/\bnd (atI z.cps.toList i) λc=>Q (.str ⟨#[c]⟩) H):=rfl
def c7{x y:Str}:kFind (.str x) [.str y] H Q=Q (.int (Txt.find x y)) H:=rfl
def JS{x y:Str}:yu (.str x) [.str y] H Q=((y.length==0)=false/\x.length<=sizeLine/\(Txt.split x y).length<=sizeLine/\∀ l,H l=none->Q (.ref l) (upd H l (.lst ((Txt.split x y).map V.str)))):=rfl
def B2{p:Addr}{i:Int}{v:V}{xs:List V}{R:Hp->Prop}(a:H p=↥xs)(h0:0<=i)(h1:i<xs.length)(h:R (upd H p (.lst (xs.set i.toNat v)))):cPut (.ref p) (.int i) v H R:=by
 unfold cPut;dsimp only;rw[a];exact⟨h0,h1,h⟩
def yw{p:Addr}{b a:Option Int}{xs:List V}(c:H p=↥xs)(h:∀ l,H l=none->Q (.ref l) (upd H l (.lst (cutV xs b a)))):ou (.ref p) b a H Q:=by
 show bnd (unL (H p)) _;rw[c];exact h
end
def cBitI(g:Int->Int->Int):R2
 | .int i,.int j,H,Q=>Q (.int (g i j)) H
 | _,_,_,_=>False
def cShl:R2
 | .int i,.int j,H,Q=>CPow i j/\Q (.int (i*2^j.toNat)) H
 | _,_,_,_=>False
def cShr:R2
 | .int i,.int j,H,Q=>0<=j/\Q (.int (i/2^j.toNat)) H
 | _,_,_,_=>False
abbrev cAnd:R2:=cBitI Builtin.bitAnd
abbrev cOr:R2:=cBitI Builtin.bitOr
section
variable{X:Cx}
def Cr{o:Operator}{g:Int->Int->Int}(h0:OpR X (binaryOp o) (rI0 λi j=>.int (g i j))):OpR X (binaryOp o) (cBitI g):=by
 intro b s σ H x y v u Q I c a h;unfold cBitI at h
 split at h
 . exact h0 b s σ H _ _ v u Q I c a ⟨_,_,rfl,rfl,h⟩
 . exact h.elim
def z7:OpR X (binaryOp .BitAnd) cAnd:=Cr KQ
def Lb:OpR X (binaryOp .BitOr) cOr:=Cr LX
def qT:OpR X (binaryOp .LShift) cShl:=by
 intro b s σ H x y v u Q I c a h;unfold cShl at h
 split at h
 . exact KO b s σ H _ _ v u Q I c a ⟨_,_,rfl,rfl,h.1,h.2⟩
 . exact h.elim
def vQ:OpR X (binaryOp .RShift) cShr:=by
 intro b s σ H x y v u Q I c a h;unfold cShr at h
 split at h
 . exact KP b s σ H _ _ v u Q I c a ⟨_,_,rfl,rfl,h.1,h.2⟩
 . exact h.elim
end
section
variable{H:Hp}{Q:VK}{i j:Int}
def dZ{g:Int->Int->Int}:cBitI g (.int i) (.int j) H Q=Q (.int (g i j)) H:=rfl
def gE:cShr (.int i) (.int j) H Q=(0<=j/\Q (.int (i/2^j.toNat)) H):=rfl
end
section
variable{X:Cx}
def kInt:List V->Hp->VK->Prop
 | [.int i],H,Q=>Q (.int i) H
 | [.bl k],H,Q=>Q (.int (if k then 1 else 0)) H
 | _,_,_=>False
def qU:V->List V->Hp->VK->Prop
 | .int i,[],H,Q=>Q (.int (Builtin.Int.intBits i:Nat)) H
 | _,_,_,_=>False
def yx:MtR X "int.bit_length" qU:=by
 intro d s σ H x vs v c Q I b a h;unfold qU at h
 split at h
 . obtain⟨t,rfl⟩:=b;cases a;exact call_int_bit_length ⟨.int _,H,I.tok _,⟨_,rfl⟩,h⟩
 . exact h.elim
def cRepL:R2
 | .ref l,.int k,H,Q=>bnd (unM (H l)) λxs=> -(2^63)<=k/\k<2^63/\xs.length*k.toNat<=sizeLine/\∀ p,H p=none->Q (.ref p) (upd H p (.lst (List.replicate k.toNat xs).flatten))
 | _,_,_,_=>False
def IL:OpR X (binaryOp .Mult) cRepL:=by
 intro b s σ H x y v u Q I c a h;unfold cRepL at h
 split at h
 . obtain⟨xs,e,h1,h2,h3,q⟩:=bu h;exact K0 b s σ H _ _ v u Q I c a ⟨_,_,xs,rfl,rfl,jB e,h1,h2,h3,q⟩
 . exact h.elim
def kAll:List V->Hp->VK->Prop
 | [.ref p],H,Q=>bnd (unL (H p)) λys=>∃ bs:List Bool,ys=bs.map V.bl/\Q (.bl (bs.all id)) H
 | _,_,_=>False
def Hf(bs:List Bool):(List.range bs.length).all (λi=>bs.getD i false)=bs.all id:=by
 rw[Qx,Qj,Qj];constructor
 . intro h b d;obtain⟨i,c,e⟩:=RP.mp d;have:=h i (Qf.mpr c);rw[List.getD,P1 c,e]at this;exact this
 . intro h i c;have a:i<bs.length:=Qf.mp c;have:=h bs[i] (QE a)
   simpa [List.getD,a] using this
def kF:bootBuiltins "all"=some (.builtin "all"):=by decide+kernel
def um:bootBuiltins "sum"=some (.builtin "sum"):=by decide+kernel
def fH(t:X.calm=true):CallR X (.builtin "all") kAll:=by
 intro K s σ H xs D Q I r h;unfold kAll at h
 split at h
 . rename_i p
   obtain⟨G,e,a,rfl,q⟩:=bu h;obtain⟨u,rfl,n⟩:=eP r;cases n;obtain⟨c,g,f,M⟩:=I.list (uh e);have j:=g.length;rw[P0]at j
   have d:p<s.heap.objs.size:=by
    obtain⟨o,h1,_⟩:=f.isList;exact Qo h1
   refine call_all_walkS (Su f.isList ?_);refine⟨s.heap.objs.size,_,_,_,c.toArray.size,_,_,λi=>a.getD i false,rfl,(Walks.list (A:=X.A.in1) (I.ok.hd t) s.heap.objs.size p (QH d) c.toArray).toS,⟨⟨_,QG _ rfl,rfl,rfl⟩,f.isList.push _⟩,?_,λF B=>?_⟩
   . intro i v L J E C k;have m:c[i]? =some v:=by simpa using C
     obtain⟨x,z,w⟩:=g.get' m;obtain⟨b,hb,rfl⟩:∃ b,a[i]? =some b/\V.bl b=x:=by simpa using z
     cases w;refine Ri ?_;have y:a.getD i false=b:=by simp[List.getD,hb]
     rw[← y];exact k
   . refine⟨.bl _,H,I.walked (l:=p) B,?_,q⟩;have e2:c.toArray.size=a.length:=by rw[Ql];exact j.symm
     rw[e2,Hf];rfl
 . exact h.elim
def kSum:List V->Hp->VK->Prop
 | [.ref p],H,Q=>bnd (unL (H p)) λys=>∃ ns:∅,ys=ns.map V.int/\(∀ x∈ns,0<=x/\x<=1000000)/\ns.length<=1000000/\Q (.int ns.sum) H
 | _,_,_=>False
theorem Hg:∀(ns:∅),(∀ x∈ns,0<=x/\x<=1000000)->0<=ns.sum/\ns.sum<=1000000*ns.length
 | [],_=>by simp
 | n::r,h=>by
  have b:=Hg r λx a=>h x (Qg _ a);have h1:=h n Qm;rw[Ua,QC];omega
def mT(C:X.calm=true):CallR X (.builtin "sum") kSum:=by
 intro O s σ H xs K Q I r h;unfold kSum at h
 split at h
 . rename_i p
   obtain⟨N,e,a,rfl,w,M,q⟩:=bu h;obtain⟨u,rfl,B⟩:=eP r;cases B;obtain⟨f,n,m,P⟩:=I.list (uh e);have y:=n.length;rw[P0]at y
   have d:p<s.heap.objs.size:=by
    obtain⟨o,h1,_⟩:=m.isList;exact Qo h1
   have e2:f.toArray.size=a.length:=by rw[Ql];exact y.symm
   refine call_sum_walkS (Su m.isList ?_);refine⟨s.heap.objs.size,_,_,_,f.toArray.size,_,_,λi=>a.getD i 0,rfl,(Walks.list (A:=X.A.in1) (I.ok.hd C) s.heap.objs.size p (QH d) f.toArray).toS,⟨⟨_,QG _ rfl,rfl,rfl⟩,m.isList.push _⟩,?_,?_,?_,λL J F=>?_⟩
   . intro b c;show b < (s.heap.push _).objs.size;rw[RY];simp only[Qs,Rf,Sn]at c;rcases c with rfl | rfl
     . exact SL _
     . exact RA d
   . intro i v G;have z:f[i]? =some v:=by simpa using G
     obtain⟨x,g,D⟩:=n.get' z;obtain⟨b,c,rfl⟩:∃ b,a[i]? =some b/\V.int b=x:=by simpa using g
     obtain⟨t,rfl⟩:=D;exact⟨t,by simp[List.getD,c]⟩
   . intro j k;rw[e2]at k;refine⟨?_,?_⟩
     . have:=w a[j] (QE k);have E:a.getD j 0=a[j]:=by simp[List.getD,k]
       show InLong (a.getD j 0);rw[E];exact⟨by omega,by omega⟩
     . rw[preSum_getD];have h1:=Hg (a.take (j+1)) λx g=>w x (Se g);have h2:(a.take (j+1)).length<=a.length:=by rw[Rt];omega
       exact⟨by omega,by omega⟩
   . refine⟨.int a.sum,H,I.walked (l:=p) F,⟨J,?_⟩,q⟩;rw[e2,preSum_getD,R1]
 . exact h.elim
def Itd(a:Int)(n:Nat):It:=⟨λi _=>i<n,λi H x b=>b=H/\x=.int (a-i),λi _=>n<=i⟩
def iRngD(a:TA):TI:=λσ H R=>a σ H λvs b=>∃ i j:Int,vs=[.int i,.int j,.int (-1)]/\(-(2^60)<=i/\i<2^60/\ -(2^60)<=j/\j<2^60)/\R (Itd i (i-j).toNat) b
end
section
variable{K:Frag}{g:TG}{tb:TS}{D:Ends}{σ:St}{H:Hp}{ta:TA}{Q:VK}
def d4{k:Bool}:kInt [.bl k] H Q=Q (.int (if k then 1 else 0)) H:=rfl
def d6{i:Int}:kInt [.int i] H Q=Q (.int i) H:=rfl
def bW{i:Int}:qU (.int i) [] H Q=Q (.int (Builtin.Int.intBits i:Nat)) H:=rfl
def nO{p:Addr}{bs:List Bool}(b:H p=↥(bs.map V.bl))(h:Q (.bl (bs.all id)) H):kAll [.ref p] H Q:=by
 show bnd (unL (H p)) _;rw[b];exact bt (a:=bs.map V.bl) rfl ⟨bs,rfl,h⟩
def vR{p:Addr}{ns:∅}(b:H p=↥(ns.map V.int))(c:∀ x∈ns,0<=x/\x<=1000000)(d:ns.length<=1000000)(h:Q (.int ns.sum) H):kSum [.ref p] H Q:=by
 show bnd (unL (H p)) _;rw[b];exact bt (a:=ns.map V.int) rfl ⟨ns,rfl,c,d,h⟩
def Lc{p:Addr}{xs:List V}{k:Int}(b:H p=↥xs)(h0:0<=k)(h1:k<=1000)(c:xs.length<=1)(h:∀ l,H l=none->Q (.ref l) (upd H l (.lst (List.replicate k.toNat xs).flatten))):cRepL (.ref p) (.int k) H Q:=by
 show bnd (unM (H p)) _;rw[b];refine bt (a:=xs) rfl ⟨by omega,by omega,?_,h⟩;refine QT (aL (Qa (SW _ c) ?_));omega
def c9:tFor (iRngD ta) g tb D σ H=ta σ H λvs a=>∃ i j:Int,vs=[.int i,.int j,.int (-1)]/\(-(2^60)<=i/\i<2^60/\ -(2^60)<=j/\j<2^60)/\LoopR (Itd i (i-j).toNat) g tb D σ a:=rfl
end
section
variable{X:Cx}
def Ite(K:Frag)(a:Addr):It:=
 ⟨λi H=>∃ xs x,SqL K H a xs/\xs[i]? =some x,
  λi H v b=>∃ T x,v=.ref T/\H T=none/\b=upd H T (.tup [.int i,x])/\∀ xs,SqL K H a xs->xs[i]? =some x,
  λi H=>∃ xs,SqL K H a xs/\xs.length<=i⟩
def ESt(a e it:Addr)(i:Nat)(h:Heap):Prop:=(∃ b,IsEnum h e it i b)/\h.IsListIter it a i
def Hh{P:Program}{w:World}{K:Frag}{es:List Expr}{x1:Nat}{pos:Pos}(a e it:Addr):
  Turn P w K (.Tuple es x1 pos) (Ite K a) [e,it] e (ESt a e it) where
 mem:=by simp
 obj:=λi h p c f=>by
  obtain⟨⟨l,j⟩,⟨J,e1,G,A⟩⟩:=p;simp only[Qs,Rf,Sn]at f;rcases f with rfl | rfl
  . exact⟨_,j,λv z=>by have z':Data.fields _=Data.cell v:=z;cases z'⟩
  . exact⟨_,e1,λv z=>by rw[A]at z;cases z⟩
 keep:=λi h h' p k=>by
  obtain⟨⟨l,j⟩,h1⟩:=p;exact⟨⟨l,k e (by simp) _ j⟩,h1.at λo q=>k it (by simp) o q⟩
 item:=by
  intro X hP hw hK f i PN s σ H E I D p Q;subst hP hw hK;obtain⟨xs,x,r,m⟩:=Q;obtain⟨t,y,O,ac⟩:=I.list r;obtain⟨Z,S,ab⟩:=y.get m;obtain⟨⟨l,j⟩,⟨J,e1,G,A⟩⟩:=id p;have F:e≠it:=K9 j e1 rfl G #[1];refine wpAny_pyNext_enum_item j ⟨J,e1,G,A⟩ O.isList (x:=Z) (by simpa using S) F λh' a1 a2 a3 a4 hk=>?_;refine⟨_,rfl,wpAny_letOwnedTupleGo_enum a1 λh2 T Y=>?_⟩;have B:H s.heap.objs.size=none:=I.fresh;have R:∀{c o},s.heap.get? c=some o->c≠s.heap.objs.size:=λe=>QH (Qo e)
  have L:∀ c o,c∉[e,it]->s.heap.get? c=some o->h2.get? c=some o:=λc o f q=>by
   simp only[Qs,Rf,Sn,not_or]at f;exact Y.extBut _ _ f.1 (hk c o f.1 f.2 q)
  have U:s.heap.objs.size≠e:=(R j).symm;have gT:h2.get? s.heap.objs.size=some {cls:=.type "tuple",data:=.seq #[.int i s.toks,Z]}:=Y.extBut _ _ U a3;have nH:∀ c∈[e,it],H c=none:=λc f=>(D c f).1;refine⟨.ref s.heap.objs.size,upd H s.heap.objs.size (.tup [.int i,x]),I.call' (s':={s with heap:=h2,toks:=s.toks+1}) (ch:=[e,it]) rfl ⟨λc o e n _ m=>L c o m e,λc o e n _ m=>⟨o.slots,L c o m e⟩,λc o e n _=>by rw[ap (R e)];exact n,λc o e m=>⟨o,L c o m e⟩,λc xs e=>by rw[ap (aD e B)];exact e,λc o u e=>by rw[ap (aD e B)];exact e,λc ps e=>⟨#[],by rw[ap (aD e B),e];simp⟩⟩ ?_ I.bare ?_,rfl,⟨_,x,rfl,B,rfl,λzs ae=>by rw[I.list_inj ae r];exact m⟩,?_,?_⟩
  . intro c ob e;by_cases M:c=s.heap.objs.size
    . subst M;rw[ai]at e;cases e;exact⟨by show(2:Nat)<=sizeLine;exact QT (aL #[1]),[.int i s.toks,Z],.cons ⟨_,rfl⟩ (.cons ab .nil),⟨_,gT,rfl,_,rfl⟩⟩
    . rw[ap M]at e;refine(I.hok c ob e).stay (λd w' N g=>L d w' ?_ g) (λd g=>by rw[ap (aD g B)];exact g) λd xs g=>by rw[ap (aD g B)];exact g
      intro hm;rcases N with rfl | N
      . rw[nH _ hm]at e;cases e
      . rw[nH _ hm]at N;cases N
  . intro c f;obtain⟨f0,A,f2,f3,f4,f5⟩:=D c f;exact⟨f3,A,f4,f5⟩
  . exact⟨⟨_,T⟩,a2.extBut Y.extBut F.symm⟩
  . intro c f
    obtain⟨o,q⟩:∃ o,s.heap.get? c=some o:=by
     simp only[Qs,Rf,Sn]at f;rcases f with rfl | rfl
     . exact⟨_,j⟩
     . exact⟨_,e1⟩
    rw[ap (R q)];exact(D c f).1
 done:=by
  intro X hP hw hK f i PN s σ H E I D p Q;subst hP hw hK;obtain⟨xs,r,m⟩:=Q;obtain⟨t,y,O,ac⟩:=I.list r;have af:=y.length;obtain⟨⟨l,j⟩,⟨J,e1,G,A⟩⟩:=id p;have C:t.toArray[i]? =none:=by simp;omega
  obtain⟨f0,W,f2,f3,f4,f5⟩:=D it (by simp);exact wpAny_pyNext_enum_end (I.ok.hd f) j ⟨J,e1,G,A⟩ O.isList C λh' eb=>⟨rfl,I.turned (t':=s.toks) (λb o M e=>eb b o M e) f0 W f3 f4 f5⟩
 self:=λ_ _ _ _ _ p h=>by
  obtain⟨⟨l,j⟩,_⟩:=p;exact wpAny_pyIter_enum j h
def iEnum(K:Frag)(c:TA):TI:=λσ H R=>c σ H λvs b=>∃ a,vs=[.ref a]/\(∃ xs,SqL K b a xs)/\R (Ite K a) b
def Ct:bootBuiltins "enumerate"=some (.type "enumerate"):=by decide+kernel
def qV{C:List Expr}{w:Nat}{d:Pos}{e1:Expr}{j:TA}{p pos:Pos}(u:Gl X "enumerate")(y:X.mg "enumerate"=none)(G:PA X [e1] j)(D:starEach [e1] X.env=[(false,eval e1 X.env)]:=by rfl):
  PI X (.Tuple C w d) (.Call (.Name "enumerate" p) [e1] [] pos) (iEnum X.K j):=by
 intro n s σ H R I h;refine Call_ (jz I u y Ct (Q9 (thn (G pos n s σ H _ I h) λJ b ⟨vs,m,f,x,E⟩=>?_) D rfl));obtain⟨a,rfl,⟨xs,i⟩,q⟩:=E;obtain⟨L,rfl,g⟩:=eP x;cases g;obtain⟨k,v,t,A⟩:=f.list i;refine call_enumerate_list t.isList λB o z M F=>?_;refine wpAny_pyIter_enum o ?_;have r:Inv X n σ m {b with heap:=B,toks:=b.toks}:=f.kept F;refine⟨b.heap.objs.size+1,[b.heap.objs.size+1,b.heap.objs.size],ESt a (b.heap.objs.size+1) b.heap.objs.size,Ite X.K a,m,rfl,r,Hh a (b.heap.objs.size+1) b.heap.objs.size,⟨⟨_,o⟩,z⟩,λc l=>?_,q⟩
 have e:b.heap.objs.size<=c:=by
  simp only[Qs,Rf,Sn]at l;rcases l with rfl | rfl <;> omega
 exact f.fpOk e (f.hok.fresh e)
end
section
variable{K:Frag}{g:TG}{tb:TS}{D:Ends}{σ:St}{H:Hp}{ta:TA}{Q:VK}{ix:List (Option Nat)}{tt:TT}{te:TE}{k:Nat}
def d7:tFor (iEnum K ta) g tb D σ H=ta σ H λvs b=>∃ a,vs=[.ref a]/\(∃ xs,SqL K b a xs)/\LoopR (Ite K a) g tb D σ b:=rfl
def da:tComp ix (iEnum K ta) g tt te σ H Q=ta σ H λvs b=>∃ a,vs=[.ref a]/\(∃ xs,SqL K b a xs)/\CompR (Ite K a) g tt te (λl c=>Q (.ref l) c) (subσ ix σ) b:=rfl
def bX:sComp k ix (iEnum K ta) g tt te D σ H=ta σ H λvs b=>∃ a,vs=[.ref a]/\(∃ xs,SqL K b a xs)/\CompR (Ite K a) g tt te (λl c=>D.nx (σ.set k ↑l) c) (subσ ix σ) b:=rfl
def Hi {a:Addr} {xs:List V} {j:Addr->Hp->Prop} {r:St} {f:Hp} (d:Addr->Nat->St->Hp->Prop) (h0:∀ l,f l=none->d l 0 r (upd f l (.lst []))) (w:∀ l i σ H,f l=none->i<=xs.length->d l i σ H->SqL K H a xs)
  (z:∀ l i x T σ H,f l=none->xs[i]? =some x->d l i σ H->H T=none->g (.ref T) σ (upd H T (.tup [.int i,x])) λk A=>tt k A λb o=>if b=true then te k o λy n=>∃ ys,n l=↥ys/\ys.length<sizeLine/\d l (i+1) k (upd n l (.lst (ys++[y]))) else d l (i+1) k o)
  (C:∀ l σ H,f l=none->d l xs.length σ H->j l H):CompR (Ite K a) g tt te j r f:=by
 intro l c;refine⟨λi m σ H=>m=xs.length-i/\i<=xs.length/\d l i σ H,⟨xs.length,by simp,QI _,h0 l c⟩,?_⟩;rintro i m σ H ⟨rfl,s,p⟩;have q:=w l i σ H c s p;by_cases h:i<xs.length
 . refine .inr ⟨⟨xs,xs[i],q,by simp[h]⟩,d l (i+1),λD B u=>⟨xs.length - (i+1),by omega,rfl,h,u⟩,λv B y=>?_⟩;obtain⟨T,x,rfl,t,rfl,e⟩:=y;exact z l i x T σ _ c (e xs q) p t
 . have e:i=xs.length:=by omega
   subst e;exact .inl ⟨⟨xs,q,Qd _⟩,C l σ H c p⟩
theorem sk {a:Addr} {xs:List V} {h:Addr->Hp->Prop} {g:St} {c:Hp} {k1 k2:Nat} (b:Nat->Bool) (f:Nat->V) (P:xs.length<=900) (j:k1≠k2) (I:SqL K c a xs)
  (F:∀(i:Nat) x H R,xs[i]? =some x->Same c H->(∀ n,Same H n->R (b i) n)->tt ((g.set k1 ⇑(i:Int)).set k2 (some x)) H R)
  (O:∀(i:Nat) x H Q,xs[i]? =some x->b i=true->Same c H->(∀ n,Same H n->Q (f i) n)->te ((g.set k1 ⇑(i:Int)).set k2 (some x)) H Q)
  (M:∀ l H,c l=none->Same c H->H l=↥(((List.range xs.length).filter b).map f)->h l H):
  CompR (Ite K a) (gTup K 2 (gCons (gName k1) (gCons (gName k2) gNil))) tt te h g c:=by
 refine Hi (xs:=xs) (λl i σ H=>(σ=g\/∃ C y,σ=(g.set k1 C).set k2 y)/\Same c H/\H l=↥(((List.range i).filter b).map f)) (λl m=>⟨.inl rfl,λb u e=>by rw[ap (aD e m)];exact e,by rw[ai];rfl⟩) (λl i σ H _ _ p=>p.2.1.seq I) ?_ (λl σ H m p=>M l H m p.2.1 p.2.2);rintro l i x T σ H m r ⟨J,B,L⟩ E;have D:i<xs.length:=(P8.mp r).1;have t:Same H (upd H T (.tup [.int i,x])):=λb u e=>by rw[ap (aD e E)];exact e
 refine⟨T,_,rfl,Ud ai,rfl,_,_,rfl,_,_,rfl,rfl,?_⟩
 have e:(σ.set k1 ⇑i).set k2 (some x)=(g.set k1 ⇑i).set k2 (some x):=by
  rcases J with rfl | ⟨C,y,rfl⟩
  . rfl
  . rw[List.set_comm _ _ (S3 j),RQ,RQ,List.set_comm _ _ j]
 show tt ((σ.set k1 ⇑i).set k2 (some x)) _ _;rw[e];refine F i x _ _ r (B.trans t) λN A=>?_;have k:=A _ _ (t _ _ L);have d:=(B.trans t).trans A;have q:∀{w:Hp} {o:HO},Same c w->Same c (upd w l o):=λs b u e=>by rw[ap (aD e m)];exact s b u e
 have G:∀ i,i<=900->(((List.range i).filter b).map f).length<sizeLine:=λi D=>by
  rw[P0];refine aL (Qa (Qk b _) ?_);rw[QU];omega
 cases v:b i with
 | false=>
  rw[Qp P7];refine⟨.inr ⟨_,_,rfl⟩,d,?_⟩;rw[Rc,QP,QW,v]
  simpa using k
 | true=>
  rw[Qt rfl];refine O i x N _ r v d λw z=>⟨_,z _ _ k,G i #[0],.inr ⟨_,_,rfl⟩,q (d.trans z),?_⟩;rw[ai,Rc,QP,QW,v];simp
end
def rngL(i j:Int):∅:=(List.range (j-i).toNat).map λ(k:Nat)=>i+(k:Int)
def l0(i j:Int):(rngL i j).length=(j-i).toNat:=by unfold rngL;simp
theorem wA:∀{xs:List V} {us:List Value},xs.length=us.length->(∀(i:Nat) x u,xs[i]? =some x->us[i]? =some u->RelV x u)->Vals xs us
 | [],[],_,_=>.nil
 | [],_::_,h,_=>by simp at h
 | _::_,[],h,_=>by simp at h
 | x::xs,u::us,h,f=>.cons (f 0 x u rfl rfl) (wA (by simpa using h) λi y e h1 h2=>f (i+1) y e (by simpa using h1) (by simpa using h2))
def IM{i j:Int}{b:Array Value}(h:ItemsOf (λk v=>∃ t,v=.int (i+k*1) t) b (j-i).toNat):Vals ((rngL i j).map V.int) b.toList:=by
 refine wA (by rw[P0,l0,Sk];exact h.1.symm) λk x u a d=>?_;obtain⟨t,rfl⟩:=h.2 k u (by simpa using d);unfold rngL at a;rw[QO,P5]at a;by_cases c:k < (j-i).toNat
 . rw[Ra c]at a;cases a;exact⟨t,by rw[Int.mul_one]⟩
 . rw[Qr (by simpa using c)]at a;cases a
section
variable{X:Cx}
def mU(b:TA):TE:=λσ H Q=>b σ H λvs a=>∃ j:Int,vs=[.int j]/\ -(2^60)<=j/\j<=1000/\∀ l,a l=none->Q (.ref l) (upd a l (.lst ((rngL 0 j).map V.int)))
def Hj(b:TA):TE:=λσ H Q=>b σ H λvs a=>∃ i j:Int,vs=[.int i,.int j]/\(0<=i/\i<=1000/\ -(2^60)<=j/\j<=1000)/\∀ l,a l=none->Q (.ref l) (upd a l (.lst ((rngL i j).map V.int)))
def IN {m:List (Addr × Obj)} {σ:St} {f:Hp} {a:Shared} {Q:VK} {i j:Int} {t u v:Tok} {r:Nat} {A:Around} {E:Value->Shared->Prop} (y:A.handled=none) (x:Inv X m σ f a) (h1:0<=i) (h2:i<=1000) (h3: -(2^60)<=j) (h4:j<=1000)
  (q:∀ l,f l=none->Q (.ref l) (upd f l (.lst ((rngL i j).map V.int)))):
  wpAny (model X.prog X.w) A (call (.type "list") [.ref a.heap.objs.size]) (EP X m σ Q) E {a with heap:=a.heap.push {cls:=.type "range",data:=.fields #[.int i t,.int j u,.int 1 v]},toks:=r}:=by
 have p:Inv X m σ f {a with heap:=a.heap.push {cls:=.type "range",data:=.fields #[.int i t,.int j u,.int 1 v]},toks:=r}:=x.kept λb o e=>Qb _ e;refine call_list_range (n:=(j-i).toNat) y (IsRange.new ..) (small_one #[0] #[0] #[0] #[0]) (by rw[rangeSize_one];split <;> omega) #[0] λB h d s g k c=>?_;have z:((rngL i j).map V.int).length<=sizeLine:=by rw[P0,l0];exact QT (aL #[0])
 exact⟨.ref _,_,p.laid (t':=h) (o:=.lst ((rngL i j).map V.int)) g (Qd _) ⟨z,d.toList,s,IM c,k⟩,rfl,q _ (p.hok.fresh (Qd _))⟩
theorem qi {a:Expr} {k:TA} {p d pos b:Pos} (m:X.calm=true) (g:Gl X "list") (i:Gl X "range") (o:X.mg "list"=none) (v:X.mg "range"=none) (z:PA X [a] k)
  (c:starEach [.Call (.Name "range" d) [a] [] b] X.env=[(false,eval (.Call (.Name "range" d) [a] [] b) X.env)]:=by rfl) (y:starEach [a] X.env=[(false,eval a X.env)]:=by rfl):
  PE X (.Call (.Name "list" p) [.Call (.Name "range" d) [a] [] b] [] pos) (mU k):=by
 intro x s σ H Q I h;refine Rm (jz I g o ck ?_ #[1] #[1]);refine Q9 ?_ c rfl;rw[c];show wpAny _ _ (spliced [(false,eval (.Call (.Name "range" d) [a] [] b) X.env)]) _ _ s;refine So ?_;refine Call_ (jz I i v boot_range (Q9 (thn (z b x s σ H _ I h) λA C ⟨vs,B,l,n,f⟩=>?_) y rfl));obtain⟨j,e,f,w,q⟩:=f;subst e
 cases n with
 | cons r u=>
  cases u;obtain⟨t,rfl⟩:=r;refine call_range_1 ?_;refine Sv ?_;exact IN (I.ok.hd m) l #[0] #[0] f w q
end
section
variable{σ:St}{H:Hp}{Q:VK}{ta:TA}
def db:mU ta σ H Q=ta σ H λvs a=>∃ j:Int,vs=[.int j]/\ -(2^60)<=j/\j<=1000/\∀ l,a l=none->Q (.ref l) (upd a l (.lst ((rngL 0 j).map V.int))):=rfl
def dc:Hj ta σ H Q=ta σ H λvs a=>∃ i j:Int,vs=[.int i,.int j]/\(0<=i/\i<=1000/\ -(2^60)<=j/\j<=1000)/\∀ l,a l=none->Q (.ref l) (upd a l (.lst ((rngL i j).map V.int))):=rfl
end
end L2
namespace L2
def besL(h w c:Int):∅:=(if 0<c/w then [c-w] else [])++(if 0<c%w then [c-1] else [])++(if c%w<w-1 then [c+1] else [])++(if c/w<h-1 then [c+w] else [])
inductive RC(h w:Int)(cs:∅)(st:Int):Int->Prop
 | start:st∈cs->RC h w cs st st
 | step {x y:Int}:RC h w cs st x->y∈besL h w x->y∈cs->RC h w cs st y
variable{h w x:Int}{cs:∅}
def RC.mem{st:Int}(r:RC h w cs st x):x∈cs:=by cases r <;> assumption
theorem RC.st{st:Int}(r:RC h w cs st x):st∈cs:=by
 induction r with
 | start h=>exact h
 | step _ _ _ a=>exact a
theorem kG:∀{xs ys:∅},xs.Nodup->(∀ x∈xs,x∈ys)->xs.length<=ys.length
 | [],_,_,_=>QI _
 | x::xs,ys,nd,h=>by
  have c:=h x Qm;have a:=Rr.mp nd
  have d:=kG (xs:=xs) (ys:=ys.erase x) a.2 λy b=>by
   have f:y≠x:=λe=>a.1 (e ▸ b);exact(List.mem_erase_of_ne f).mpr (h y (Qg _ b))
  rw[List.length_erase_of_mem c]at d;have:0<ys.length:=TL c;simp only[QC];omega
structure BI(h w:Int)(cs:∅)(st:Int)(fs:∅)(pl:Nat):Prop where
 nd:fs.Nodup
 rc:∀ x∈fs,RC h w cs st x
 hst:st∈fs
 le:pl<=fs.length
 cl:∀(i:Nat) (x y:Int),i<pl->fs[i]? =some x->y∈besL h w x->y∈cs->y∈fs
variable{pl:Nat}
def BI.len{st:Int}{a:∅}(b:BI h w cs st a pl):a.length<=cs.length:=kG b.nd λx c=>(b.rc x c).mem
def BI.start{st:Int}(a:st∈cs):BI h w cs st [st] 0:=
 ⟨by simp,λx c=>by rw[Qz.mp c];exact .start a,by simp,QI _,λi x y b=>absurd b (Nat.not_lt_zero _)⟩
theorem BI.done{st:Int}{a:∅}(b:BI h w cs st a pl)(e:¬ pl<a.length)(x:Int):x∈a↔RC h w cs st x:=by
 refine⟨b.rc x,λr=>?_⟩
 induction r with
 | start _=>exact b.hst
 | step r d f g=>
  obtain⟨i,c⟩:=List.getElem?_of_mem g;have j:i<a.length:=(P8.mp c).1;exact b.cl i _ _ #[0] c d f
def addC(cs a:∅)(y:Int):∅:=if y∈cs/\¬ y∈a then a++[y] else a
structure BJ(h w:Int)(cs:∅)(st:Int)(f0:∅)(pl:Nat)(bs:∅)(fs:∅):Prop where
 nd:fs.Nodup
 rc:∀ x∈fs,RC h w cs st x
 pre:f0 <+:fs
 al:∀ y∈bs,y∈cs->y∈fs
def BJ.zero{st:Int}{a:∅}(b:BI h w cs st a pl):BJ h w cs st a pl [] a:=⟨b.nd,b.rc,List.prefix_refl _,λy c=>nomatch c⟩
def BJ.more{st:Int}{i g bs:∅}{y:Int}(j:BJ h w cs st i pl bs g)(o:RC h w cs st x)(k:y∈besL h w x):BJ h w cs st i pl (bs++[y]) (addC cs g y):=by
 unfold addC
 split
 . rename_i f
   refine⟨?_,λz c=>?_,j.pre.trans (List.prefix_append _ _),λz c d=>?_⟩
   . refine RS.mpr ⟨j.nd,by simp,λa m b l=>?_⟩;rw[Qz.mp l];intro e;exact f.2 (e ▸ m)
   . rcases QD.mp c with c | c
     . exact j.rc z c
     . rw[Qz.mp c];exact .step o k f.1
   . rcases QD.mp c with c | c
     . exact RN _ (j.al z c d)
     . rw[Qz.mp c];simp
 . rename_i f
   refine⟨j.nd,j.rc,j.pre,λz c d=>?_⟩;rcases QD.mp c with c | c
   . exact j.al z c d
   . rw[Qz.mp c]at d ⊢;exact Decidable.byContradiction λn=>f ⟨d,n⟩
def BJ.done{st:Int}{a d:∅}(b:BI h w cs st a pl)(m:a[pl]? =some x)(j:BJ h w cs st a pl (besL h w x) d):BI h w cs st d (pl+1):=by
 have n:pl<a.length:=(P8.mp m).1;have o:=j.pre.length_le
 have f:∀ i,i<a.length->d[i]? =a[i]? :=λi k=>by
  obtain⟨t,e⟩:=j.pre;rw[← e,QM k]
 refine⟨j.nd,j.rc,j.pre.subset b.hst,by omega,λi z y k c g l=>?_⟩;rw[f i #[0]]at c;by_cases e:i<pl
 . exact j.pre.subset (b.cl i z y e c g l)
 . have:i=pl:=by omega
   subst this;rw[m]at c;cases c;exact j.al y g l
def Hk{c e:∅}(p:c.Perm e)(s:c.Pairwise (· <=·))(f:e.Nodup):c.Pairwise (· < ·):=by
 have d:c.Nodup:=p.nodup_iff.mpr f;refine(s.and d).imp ?_;intro a b h;have:=h.1;have:=h.2;omega
theorem yy:∀{xs ys:∅},xs.Pairwise (· < ·)->ys.Pairwise (· < ·)->(∀ z,z∈xs↔z∈ys)->xs=ys
 | [],[],_,_,_=>rfl
 | [],y::ys,_,_,h=>absurd ((h y).mpr Qm) (λq=>nomatch q)
 | x::xs,[],_,_,h=>absurd ((h x).mp Qm) (λq=>nomatch q)
 | x::xs,y::ys,hx,hy,h=>by
  have a:=List.pairwise_cons.mp hx;have b:=List.pairwise_cons.mp hy
  have e:x=y:=by
   rcases Qs.mp ((h x).mp Qm) with e | c
   . exact e
   . rcases Qs.mp ((h y).mpr Qm) with e | d
     . exact e.symm
     . have:=b.1 x c;have:=a.1 y d;omega
  subst e;refine congrArg (x::·) (yy a.2 b.2 λz=>⟨λm=>?_,λm=>?_⟩)
  . rcases Qs.mp ((h z).mp (Qg _ m)) with e | q
    . have:=a.1 z m;omega
    . exact q
  . rcases Qs.mp ((h z).mpr (Qg _ m)) with e | q
    . have:=b.1 z m;omega
    . exact q
end L2
namespace L2
open PySem PySem.Spec PyProof.Rows
def wk9(t:String):Lean.MacroM Lean.Syntax:=do
 let x<-(t.splitOn " ").toArray.mapM λs=>`(Lean.Parser.Tactic.simpLemma|$(Lean.mkIdent s.toName):term)
 `(tactic|(first|simp only[$x,*]|dsimp only|skip))
def ws1:String:="ax cD bP aP cF cG w_c fU cH cS cm cI w_b w_not eQ g9 cT cU eX dj bO gD cJ e6 dy gt e7 cK cV cW cX bR bS bE bF bG bv e9 fc fe fg fh fj fk fm fq fu fv fz hJ cY bH cZ hX c5 bT bI fA fC c6 cL c7 List.getElem?_cons_zero List.getElem?_cons_succ Option.some.injEq exists_eq_left' exists_eq_left List.set_cons_zero List.set_cons_succ bD V.int.injEq V.bl.injEq V.ref.injEq V.str.injEq List.nil_append List.cons_append"
local macro_rules|`(tactic|walk_at "w")=>wk9 ws1
local macro_rules|`(tactic|symm)=>`(tactic|walk_at "w")
def aQ{n:Nat}(h:n<=1000):n<=sizeLine:=QT (aL h)
def lnR{n:Nat}(h:Nat.ble n 1000=true):n<=sizeLine:=aQ (QZ h)
def IsFl(H:Hp)(a:Addr)(h w g:Int):Prop:=H a=some (.tup [.int h,.int w,.int g])
variable{H:Hp}{p:Addr}
def Same.laid{a:Hp}{o:HO}(s:Same H a)(h:a p=none):Same H (upd a p o):=λb u e=>by
 rw[ap (aD (s b u e) h)];exact s b u e
def aU{U:Addr}(O:HO)(h:H U=none):∃ z,upd H U O=z/\Same H z/\z U=some O:=⟨_,rfl,(P2 H).laid h,ai⟩
def Same.own{a:Hp}{o:HO}(s:Same H a)(h:H p=none):Same H (upd a p o):=λb u e=>by
 rw[ap (aD e h)];exact s b u e
variable{l:∅}{i:Nat}
def ja{x:Int}(h:l[i]? =some x):l.getD i 0=x:=by
 rw[List.getD,h];rfl
variable{ns:∅}
def xk{k:Int}(h0:0<=k)(h1:k<ns.length):atI (ns.map V.int) k=⇑(ns.getD k.toNat 0):=by
 have e:((k.toNat:Nat):Int)=k:=Int.toNat_of_nonneg h0;have a:k.toNat<ns.length:=by omega
 have:(ns.map V.int)[k.toNat]? =⇑(ns.getD k.toNat 0):=by
  rw[P5,P1 a];simp[List.getD,a]
 have q:=dS this;rw[e]at q;exact q
def bq{α:Type}(l:List α):l.filter (λ_=>true)=l:=RF.mpr λ_ _=>rfl
theorem bj{y:V}(h:(l.map V.int)[i]? =some y):∃ z,l[i]? =some z/\y=.int z:=by
 rw[P5]at h
 cases e:l[i]? with
 | none=>rw[e]at h;cases h
 | some z=>rw[e]at h;cases h;exact⟨z,rfl,rfl⟩
theorem bL{l:List Addr}{y:V}(h:(l.map V.ref)[i]? =some y):∃ z,l[i]? =some z/\y=.ref z:=by
 rw[P5]at h
 cases e:l[i]? with
 | none=>rw[e]at h;cases h
 | some z=>rw[e]at h;cases h;exact⟨z,rfl,rfl⟩
def pw{h w:Int}(h0:1<=h)(h1:h<=6):CMul h w:=.inl ⟨by omega,by omega⟩
def so{a:List Addr}{k:Int}(h0:0<=k)(h:a[k.toNat]? =some p):atI (a.map V.ref) k=↑p:=by
 have e:((k.toNat:Nat):Int)=k:=Int.toNat_of_nonneg h0;have b:(a.map V.ref)[k.toNat]? =↑p:=by rw[P5,h];rfl
 have q:=dS b;rw[e]at q;exact q
section
variable{k:Nat}{lo:Int}{n:Nat}{tt:TT}{te:TE}{fin:Addr->Hp->Prop}{σ0:St}{H1:Hp}{K:Frag}{a:Addr}
def ow{n i:Nat}(b:Nat->Bool)(h:i<n)(a:n<=900):((List.range i).filter b).length<=900:=by
 have:=Qk b (List.range i);rw[QU]at this;omega
theorem wB (b:Nat->Bool) (f:Nat->V) (s:n<=900)
  (t:∀ i H R,i<n->Same H1 H->(∀ d,Same H d->R (b i) d)->tt (σ0.set k ⇑(lo+i)) H R)
  (u:∀ i H Q,i<n->b i=true->Same H1 H->(∀ d,Same H d->Q (f i) d)->te (σ0.set k ⇑(lo+i)) H Q)
  (x:∀ l H,H1 l=none->Same H1 H->H l=↥(((List.range n).filter b).map f)->fin l H):
  CompR (Itr lo n) (gName k) tt te fin σ0 H1:=by
 refine si (λl i σ H=>(σ=σ0\/∃ o,σ=σ0.set k o)/\Same H1 H/\H l=↥(((List.range i).filter b).map f)) (λl c=>⟨.inl rfl,(P2 H1).laid c,by rw[ai];rfl⟩) ?_ (λl σ H c p=>x l H c p.2.1 p.2.2);rintro l i σ H c j ⟨w,h,v⟩;rw[aP]
 have e:σ.set k ⇑(lo+i)=σ0.set k ⇑(lo+i):=by
  rcases w with rfl | ⟨o,rfl⟩
  . rfl
  . exact RQ ..
 rw[e];refine t i H _ j h λr g=>?_;have a:=g _ _ v
 cases m:b i with
 | false=>
  rw[Qp P7];refine⟨.inr ⟨_,rfl⟩,h.trans g,?_⟩;rw[Rc,QP,QW,m]
  simpa using a
 | true=>
  rw[Qt rfl];refine u i r _ j m (h.trans g) λy q=>⟨_,q _ _ a,by rw[P0];exact aL (Qa (ow b j s) #[1]),.inr ⟨_,rfl⟩,((h.trans g).trans q).own c,?_⟩;rw[ai,Rc,QP,QW,m];simp
theorem bM {xs:List V} (b:Nat->Bool) (f:Nat->V) (t:xs.length<=900) (u:SqL K H1 a xs)
  (s:∀ i x H R,xs[i]? =some x->Same H1 H->(∀ g,Same H g->R (b i) g)->tt (σ0.set k (some x)) H R)
  (A:∀ i x H Q,xs[i]? =some x->b i=true->Same H1 H->(∀ g,Same H g->Q (f i) g)->te (σ0.set k (some x)) H Q)
  (y:∀ l H,H1 l=none->Same H1 H->H l=↥(((List.range xs.length).filter b).map f)->fin l H):
  CompR (Itl K a) (gName k) tt te fin σ0 H1:=by
 refine uj (xs:=xs) (λl i σ H=>(σ=σ0\/∃ o,σ=σ0.set k o)/\Same H1 H/\H l=↥(((List.range i).filter b).map f)) (λl d=>⟨.inl rfl,(P2 H1).laid d,by rw[ai];rfl⟩) (λl i σ H _ _ p=>p.2.1.seq u) ?_ (λl σ H d p=>y l H d p.2.1 p.2.2);rintro l i x σ H d m ⟨w,j,v⟩;have r:i<xs.length:=(P8.mp m).1;rw[aP]
 have e:σ.set k (some x)=σ0.set k (some x):=by
  rcases w with rfl | ⟨o,rfl⟩
  . rfl
  . exact RQ ..
 rw[e];refine s i x H _ m j λz h=>?_;have c:=h _ _ v
 cases n:b i with
 | false=>
  rw[Qp P7];refine⟨.inr ⟨_,rfl⟩,j.trans h,?_⟩;rw[Rc,QP,QW,n]
  simpa using c
 | true=>
  rw[Qt rfl];refine A i x z _ m n (j.trans h) λB q=>⟨_,q _ _ c,by rw[P0];exact aL (Qa (ow b r t) #[1]),.inr ⟨_,rfl⟩,((j.trans h).trans q).own d,?_⟩;rw[ai,Rc,QP,QW,n];simp
def fV (b:Nat->Bool) (f:Nat->Int) (e:n<=900)
  (g:∀ i H R,i<n->Same H1 H->(∀ a,Same H a->R (b i) a)->tt (σ0.set k ⇑(lo+i)) H R)
  (h:∀ i H Q,i<n->b i=true->Same H1 H->(∀ a,Same H a->Q (.int (f i)) a)->te (σ0.set k ⇑(lo+i)) H Q)
  (m:∀ l H,H1 l=none->Same H1 H->H l=↥((((List.range n).filter b).map f).map V.int)->fin l H):
  CompR (Itr lo n) (gName k) tt te fin σ0 H1:=
 wB b (λi=>.int (f i)) e g h λl H d c j=>m l H d c (by rw[QO];exact j)
def Hl(b:Int->Bool)(f:Int->Int)(xs:∅):((List.range xs.length).filter λi=>b (xs.getD i 0)).map (λi=>V.int (f (xs.getD i 0)))=((xs.filter b).map f).map V.int:=by
 have e:xs=(List.range xs.length).map λi=>xs.getD i 0:=by
  refine Rp λi=>?_;rw[P5];by_cases h:i<xs.length
  . rw[Ra h,P1 h];simp[List.getD,h]
  . rw[Qr #[0],Qr (by simpa using h)];rfl
 conv=>rhs;rw[e]
 rw[List.filter_map,QO,QO];rfl
def bc {xs:∅} (b:Int->Bool) (f:Int->Int) (o:xs.length<=900) (n:SqL K H1 a (xs.map V.int))
  (q:∀ x H R,x∈xs->Same H1 H->(∀ e,Same H e->R (b x) e)->tt (σ0.set k ⇑x) H R)
  (s:∀ x H Q,x∈xs->b x=true->Same H1 H->(∀ e,Same H e->Q (.int (f x)) e)->te (σ0.set k ⇑x) H Q)
  (r:∀ l H,H1 l=none->Same H1 H->H l=↥(((xs.filter b).map f).map V.int)->fin l H):
  CompR (Itl K a) (gName k) tt te fin σ0 H1:=by
 refine bM (xs:=xs.map V.int) (λi=>b (xs.getD i 0)) (λi=>.int (f (xs.getD i 0))) (by rw[P0];exact o) n ?_ ?_ ?_
 . intro i x H R g c h;obtain⟨z,d,rfl⟩:=bj g;rw[ja d]at h;exact q z H R (Qi d) c h
 . intro i x H Q g j c h;obtain⟨z,d,rfl⟩:=bj g;rw[ja d]at h j;exact s z H Q (Qi d) j c h
 . intro l H p c m;refine r l H p c ?_;rw[P0]at m;rw[m,Hl]
structure NewAt(H1 H:Hp)(l:Addr)(as:List Addr)(os:List HO):Prop where
 len:as.length=os.length
 nd:as.Nodup
 nl:l∉as
 fr:∀ a∈as,H1 a=none
 at_:∀(j:Nat) (a:Addr) (o:HO),as[j]? =some a->os[j]? =some o->H a=some o
def NewAt.nil{H1 H:Hp}{l:Addr}:NewAt H1 H l [] [] where
 len:=rfl
 nd:=Tg
 nl:=by simp
 fr:=λa h=>nomatch h
 at_:=λj a o h=>by simp at h
def NewAt.same{H1 H b:Hp}{l:Addr}{c:List Addr}{os:List HO}(x:NewAt H1 H l c os)(s:Same H b):NewAt H1 b l c os:=
 ⟨x.len,x.nd,x.nl,x.fr,λj a o h1 h2=>s _ _ (x.at_ j a o h1 h2)⟩
def NewAt.mem{H1 H:Hp}{l:Addr}{c:List Addr}{os:List HO}(x:NewAt H1 H l c os){a:Addr}(h:a∈c):∃ o,H a=some o:=by
 obtain⟨j,d,e⟩:=RP.mp h;have b:j<os.length:=by rw[← x.len];exact d
 exact⟨os[j],x.at_ j a os[j] (by rw[P1 d,e]) (P1 b)⟩
def NewAt.more{H1 H i:Hp}{l p:Addr}{h:List Addr}{os:List HO}{o u:HO}(x:NewAt H1 H l h os)(w:Same H1 H)(s:Same H i)(d:H p=none)(e:i p=some o)(t:H l=some u)(y:HO):NewAt H1 (upd i l y) l (h++[p]) (os++[o]):=by
 have f:p≠l:=λz=>by rw[z,t]at d;cases d
 refine⟨by simp[x.len],?_,?_,?_,?_⟩
 . refine RS.mpr ⟨x.nd,by simp,λa c b r z=>?_⟩;rw[Qz.mp r]at z;obtain⟨m,e2⟩:=x.mem c;rw[z,d]at e2;cases e2
 . intro g;rcases QD.mp g with g | g
   . exact x.nl g
   . exact f (Qz.mp g).symm
 . intro a c;rcases QD.mp c with c | c
   . exact x.fr a c
   . rw[Qz.mp c]
     cases q:H1 p with
     | none=>rfl
     | some v=>rw[w _ _ q]at d;cases d
 . intro j a m h1 h2;have B:=x.len;by_cases A:j<h.length
   . rw[QM A]at h1;rw[QM #[0]]at h2;have k:a≠l:=λz=>x.nl (z ▸ Qi h1);rw[ap k];exact s _ _ (x.at_ j a m h1 h2)
   . rw[QS #[0]]at h1;rw[QS #[0]]at h2
     have n:j-h.length=0:=by
      have:=(P8.mp h1).1;simp at this;omega
     rw[n]at h1;rw[show j-os.length=0 by omega]at h2;simp at h1 h2;subst h1 h2;rw[ap f];exact e
theorem Em (b:Nat->Bool) (o:Nat->HO) (z:n<=900)
  (w:∀ i H R,i<n->Same H1 H->(∀ g,Same H g->R (b i) g)->tt (σ0.set k ⇑(lo+i)) H R)
  (F:∀ i H Q,i<n->b i=true->Same H1 H->(∀ a g,Same H g->H a=none->g a=some (o i)->Q (.ref a) g)->te (σ0.set k ⇑(lo+i)) H Q)
  (D:∀ l c H,H1 l=none->Same H1 H->H l=↥(c.map V.ref)->NewAt H1 H l c (((List.range n).filter b).map o)->fin l H):
  CompR (Itr lo n) (gName k) tt te fin σ0 H1:=by
 refine si (λl i σ H=>(σ=σ0\/∃ v,σ=σ0.set k v)/\Same H1 H/\∃ c:List Addr,H l=↥(c.map V.ref)/\NewAt H1 H l c (((List.range i).filter b).map o)) (λl h=>⟨.inl rfl,(P2 H1).laid h,[],by rw[ai];rfl,NewAt.nil⟩) ?_ (λl σ H h ⟨_,j,c,s,x⟩=>D l c H h j s x);rintro l i σ H h m ⟨C,j,c,s,x⟩;rw[aP]
 have e:σ.set k ⇑(lo+i)=σ0.set k ⇑(lo+i):=by
  rcases C with rfl | ⟨v,rfl⟩
  . rfl
  . exact RQ ..
 rw[e];refine w i H _ m j λE u=>?_;have f:=u _ _ s;have q:=x.same u;have d:=j.trans u
 cases r:b i with
 | false=>
  rw[Qp P7];refine⟨.inr ⟨_,rfl⟩,d,c,f,?_⟩;rw[Rc,QP,QW,r]
  simpa using q
 | true=>
  rw[Qt rfl];refine F i E _ m r d λp G t B A=>⟨_,t _ _ f,?_,.inr ⟨_,rfl⟩,(d.trans t).own h,c++[p],?_,?_⟩
  . rw[P0,q.len,P0];exact aL (Qa (ow b m z) #[1])
  . rw[ai];simp
  . have y:=q.more d t B A f (.lst (c.map V.ref++[V.ref p]));rw[Rc,QP,QW,r]
    simpa using y
theorem FO {xs:List V} (b:Nat->Bool) (o:Nat->HO) (A:xs.length<=900) (C:SqL K H1 a xs)
  (w:∀ i x H R,xs[i]? =some x->Same H1 H->(∀ g,Same H g->R (b i) g)->tt (σ0.set k (some x)) H R)
  (I:∀ i x H Q,xs[i]? =some x->b i=true->Same H1 H->(∀ a g,Same H g->H a=none->g a=some (o i)->Q (.ref a) g)->te (σ0.set k (some x)) H Q)
  (F:∀ l c H,H1 l=none->Same H1 H->H l=↥(c.map V.ref)->NewAt H1 H l c (((List.range xs.length).filter b).map o)->fin l H):
  CompR (Itl K a) (gName k) tt te fin σ0 H1:=by
 refine uj (xs:=xs) (λl i σ H=>(σ=σ0\/∃ u,σ=σ0.set k u)/\Same H1 H/\∃ c:List Addr,H l=↥(c.map V.ref)/\NewAt H1 H l c (((List.range i).filter b).map o)) (λl h=>⟨.inl rfl,(P2 H1).laid h,[],by rw[ai];rfl,NewAt.nil⟩) (λl i σ H _ _ p=>p.2.1.seq C) ?_ (λl σ H h ⟨_,j,c,r,x⟩=>F l c H h j r x);rintro l i y σ H h n ⟨E,j,c,r,x⟩;have v:i<xs.length:=(P8.mp n).1;rw[aP]
 have e:σ.set k (some y)=σ0.set k (some y):=by
  rcases E with rfl | ⟨u,rfl⟩
  . rfl
  . exact RQ ..
 rw[e];refine w i y H _ n j λG t=>?_;have f:=t _ _ r;have m:=x.same t;have d:=j.trans t
 cases q:b i with
 | false=>
  rw[Qp P7];refine⟨.inr ⟨_,rfl⟩,d,c,f,?_⟩;rw[Rc,QP,QW,q]
  simpa using m
 | true=>
  rw[Qt rfl];refine I i y G _ n q d λp J s D B=>⟨_,s _ _ f,?_,.inr ⟨_,rfl⟩,(d.trans s).own h,c++[p],?_,?_⟩
  . rw[P0,m.len,P0];exact aL (Qa (ow b v A) #[1])
  . rw[ai];simp
  . have z:=m.more d s D B f (.lst (c.map V.ref++[V.ref p]));rw[Rc,QP,QW,q]
    simpa using z
end
theorem DVs.of_get{K:Frag}{H:Hp}:∀{xs:List V} {a:List PyData},xs.length=a.length->(∀(i:Nat) x d,xs[i]? =some x->a[i]? =some d->DV K H x d)->DVs K H xs a
 | [],[],_,_=>.nil
 | [],_::_,h,_=>by simp at h
 | _::_,[],h,_=>by simp at h
 | x::xs,d::a,h,f=>.cons (f 0 x d rfl rfl) (DVs.of_get (by simpa using h) λi y e h1 h2=>f (i+1) y e (by simpa using h1) (by simpa using h2))
theorem qW:∀{a:List PyData},(∀ d∈a,PyData.canLay0 d=true)->PyData.canLayAll0 a=true
 | [],_=>rfl
 | d::r,h=>by rw[PyData.canLayAll0,h d Qm,qW λe b=>h e (Qg _ b)];rfl
theorem px{n:Nat}:∀{a:List PyData},(∀ d∈a,PyData.depth d<=n)->PyData.depthAll a<=n
 | [],_=>QI _
 | d::r,h=>by rw[PyData.depthAll];exact Nat.max_le.mpr ⟨h d Qm,px λe b=>h e (Qg _ b)⟩
theorem Aa{α:Type}[DecidableEq α](g:α->PyData)(c:∀ a b,PyData.eqv (g a) (g b)=decide (a=b)):∀ xs ys:List α,PyData.eqvAll (xs.map g) (ys.map g)=decide (xs=ys)
 | [],[]=>rfl
 | [],_::_=>rfl
 | _::_,[]=>rfl
 | x::xs,y::ys=>by
  rw[QJ,QJ,PyData.eqvAll,c,Aa g c xs ys,Qx];simp
structure IsLL(H:Hp)(l:Addr)(as:List Addr)(PV:List ∅):Prop where
 top:H l=↥(as.map V.ref)
 len:as.length=PV.length
 at_:∀(j:Nat) (a:Addr) (xs:∅),as[j]? =some a->PV[j]? =some xs->H a=↥(xs.map V.int)
def IsLL.same{c:Hp}{l:Addr}{d:List Addr}{b:List ∅}(x:IsLL H l d b)(s:Same H c):IsLL c l d b:=
 ⟨s _ _ x.top,x.len,λj a e h1 h2=>s _ _ (x.at_ j a e h1 h2)⟩
def nP(K:Frag):Sp:=#[3,∃ a h w g c,vs=[.ref a,.int c]/\IsFl H a h w g/\0<w/\w<100/\∀ p,H p=none->Q (.ref p) (upd H p (.tup [.int (c/w),.int (c%w)]))]
def sr(K:Frag):TS:=#[":glbi0df#1 h#2 jOabL12abA12e"]
abbrev eD9(Q:VK):Ends:={nx:=λ_ a=>Q .non a,rt:=Q}
variable{K:Frag}{vs:List V}
def FP{Q:VK}{E:XK}(h:nP K vs H Q E):sr K (eD9 Q) (start ["floor","cell","wide"] vs) H:=by
 obtain⟨a,h,w,g,c,rfl,d,b,e,k⟩:=h;exists sr;rw[jP d];refine bt (a:=V.int w) rfl ?_;exists⟨⟨b,by omega⟩,b,lnR rfl,k⟩
def xm(h w c:Int):(besL h w c).length<=4:=by
 unfold besL;simp only[Qn]
 split <;> split <;> split <;> split <;> simp
def iG(K:Frag):Sp:=#[3,∃ a h w g c,vs=[.ref a,.int c]/\IsFl H a h w g/\0<w/\w<100/\∀ l b,Same H b->H l=none->b l=↥((besL h w c).map V.int)->Q (.ref l) b]
def uo(K:Frag):TS:=#[":glbi0df#0 h#2 glbi0df#1 h#3 gl,'vca0a1eh#4 glueh#5 gomb>bi4df#0 df#0 ZRcQ:5abI13epgomb>bi4df#1 df#0 ZRcQ:5abI1df#1 epgomb<bi4df#1 bI3df#1 ZRcQ:5abv1df#1 epgomb<bi4df#0 bI2df#1 ZRcQ:5abv13epj5"]
theorem uq {D:Ends} {σ:St} {t:TT} {e:TE} {b:Bool} {v:Int} {l:Addr} (j:σ[i]? =some ↑l) (f:∀ R,R b H->t σ H R) (a:H l=↥(ns.map V.int)) (m:ns.length<=900)
  (g:∀ Q,Q (.int v) H->e σ H Q) (k:∀ d,(d l=↥((ns++if b=true then [v] else []).map V.int))->(∀ c,c≠l->d c=H c)->D.nx σ d):
  tIfS t (tDrop (tBM K "list" cj (tVar i) (tCons e tNil))) tNext D σ H:=by
 rw[az];refine f _ ?_
 cases b with
 | false=>
  refine iteF ?_;rw[cD];exact k H (by simpa using a) λ_ _=>rfl
 | true=>
  refine iteT ?_;rw[cm,gt,Jw];refine⟨_,j,cC a,?_⟩;rw[bO];refine g _ ?_;rw[dj,lZ a];refine⟨by rw[P0];exact aL #[0],k _ ?_ λc h=>ap h⟩;rw[ai];simp
def Hm{Q:VK}{E:XK}(h:iG K vs H Q E):uo K (eD9 Q) (start ["floor","cell","high","wide","spot","found"] vs) H:=by
 obtain⟨a,h,w,g,c,rfl,z,I,D,k⟩:=h;exists uo;rw[jP z];refine bt (a:=V.int h) rfl ?_;symm;rw[jP z];refine bt (a:=V.int w) rfl ?_;exists⟨a,h,w,g,c,rfl,z,I,D,λp G=>?_⟩;exists⟨aQ #[1],λl s=>?_⟩;have n:p≠l:=λe=>by rw[e,ai]at s;cases s
 have r:H l=none:=by rw[ap n.symm]at s;exact s
 have j:∀ y:Hp,(∀ d,d≠l->y d=upd H p (.tup [.int (c/w),.int (c%w)]) d)->y p=some (.tup [.int (c/w),.int (c%w)]):=λy e=>by rw[e p n,ai]
 refine uq (ns:=[]) (l:=l) (i:=5) (b:=decide (0<c/w)) (v:=c-w) rfl (λR q=>?_) ai #[1] (λQ q=>?_) λL e1 t=>?_
 . symm;rw[jP (j _ λd f=>ap f)];refine bt rfl ?_;symm;exact q
 . symm;exact q
 exists uq (l:=l) (i:=5) (b:=decide (0<c%w)) (v:=c-1) rfl (λR q=>?_) e1 (by simp;split <;> simp) (λQ q=>?_) λM e2 x=>?_
 . symm;rw[jP (j _ λd f=>by rw[t d f,ap f])];refine bt rfl ?_;symm;exact q
 . symm;exact q
 exists uq (l:=l) (i:=5) (b:=decide (c%w<w-1)) (v:=c+1) rfl (λR q=>?_) e2 (by simp;split <;> split <;> simp) (λQ q=>?_) λN C A=>?_
 . symm;rw[jP (j _ λd f=>by rw[x d f,t d f,ap f])];refine bt rfl ?_;symm;exact q
 . symm;exact q
 exists uq (l:=l) (i:=5) (b:=decide (c/w<h-1)) (v:=c+w) rfl (λR q=>?_) C (by simp;split <;> split <;> split <;> simp) (λQ q=>?_) λF B J=>?_
 . symm;rw[jP (j _ λd f=>by rw[A d f,x d f,t d f,ap f])];refine bt rfl ?_;symm;exact q
 . symm;exact q
 exists k l F (λb o e=>?_) r ?_
 . have m:b≠l:=aD e r;have u:b≠p:=aD e G;rw[J b m,A b m,x b m,t b m,ap m,ap u];exact e
 . rw[B];unfold besL;simp[P6]
structure FlOk(h w g:Int):Prop where
 h0:1<=h
 h1:h<=6
 w0:1<=w
 w1:w<=6
 m:h*w<=16
 g0:1<=g
 g1:g<=6
section
variable{K:Frag}{H:Hp}{Q:VK}
def yz{p:Addr}{xs:List V}(b:H p=↥xs)(h:Q (.bl true) H):kIsi [.ref p,.ty "list"] H Q:=by
 refine⟨by decide,bt (a:="list") (by unfold oq;dsimp only;rw[b]) ?_⟩;rw[show isTy "list" "list"=true by decide];exact h
def Cu{p:Addr}{xs:List V}(b:H p=some (.tup xs))(h:Q (.bl true) H):kIsi [.ref p,.ty "tuple"] H Q:=by
 refine⟨by decide,bt (a:="tuple") (by unfold oq;dsimp only;rw[b]) ?_⟩;rw[show isTy "tuple" "tuple"=true by decide];exact h
def ox{n:Nat}{t:TGs}{σ:St}{k:St->Hp->Prop}{p:Addr}{xs:List V}(a:H p=some (.tup xs))(b:xs.length=n)(h:t xs σ H k):gTup K n t (.ref p) σ H k:=⟨p,xs,rfl,Ud a,b,h⟩
def su{i j:Nat}{x y:V}{σ:St}{k:St->Hp->Prop}:gCons (gName i) (gCons (gName j) gNil) [x,y] σ H k=k ((σ.set i (some x)).set j (some y)) H:=by
 refine propext ⟨?_,λh=>⟨x,[y],rfl,y,[],rfl,rfl,h⟩⟩;rintro⟨v,r,e,c,b,e2,a,h⟩;cases e;cases e2;exact h
end
end L2
namespace L2
open PySem PySem.Builtin PySem.Builtin.Str
def tx(l:List Nat):Str:=⟨l.toArray⟩
def yA(l:List Nat):(tx l).cps.toList=l:=by simp[tx]
def L8(x:Str):tx x.cps.toList=x:=by cases x;simp[tx]
def Hn{a b:List Nat}(h:tx a=tx b):a=b:=by rw[← yA a,h,yA]
def gu(l:List Nat):(tx l).length=l.length:=by simp[tx,Str.length]
def oz(a b:List Nat):tx a++tx b=tx (a++b):=by
 refine Str.ext' ?_;rw[Str.cps_append];simp[tx]
def dJ(a b:List Nat):decide (tx a=tx b)=decide (a=b):=by
 by_cases h:a=b
 . subst h;simp
 . have:¬ tx a=tx b:=λe=>h (Hn e);rw[P3 h,P3 this]
def catL(c:Nat):List (List Nat)->List Nat
 | []=>[]
 | [x]=>x
 | x::y::r=>x++c::catL c (y::r)
theorem vS(c:Nat):∀ ts:List (List Nat),Str.join (tx [c]) (ts.map tx)=tx (catL c ts)
 | []=>rfl
 | [x]=>rfl
 | x::y::r=>by
  show tx x++tx [c]++Str.join (tx [c]) ((y::r).map tx)=_;rw[vS c (y::r),oz,oz];show tx _=tx (x++c::catL c (y::r));rw[Tp];rfl
def Cv(a:Str)(ts:List Str):Txt.join a ts=Str.join a ts:=StrLaws.glued_eq_join a ts
theorem E2{c:Nat}:∀{a b x y:List Nat},c∉a->c∉b->a++c::x=b++c::y->a=b/\x=y
 | [],[],_,_,_,_,h=>⟨rfl,by simpa using h⟩
 | [],b::bs,_,_,_,hb,h=>by
  simp at h;exact absurd (Qs.mpr (.inl h.1)) hb
 | a::as,[],_,_,ha,_,h=>by
  simp at h;exact absurd (Qs.mpr (.inl h.1.symm)) ha
 | a::as,b::bs,x,y,ha,hb,h=>by
  simp at h;have:=E2 (λz=>ha (Qg _ z)) (λz=>hb (Qg _ z)) h.2;exact⟨by rw[h.1,this.1],this.2⟩
def Cw{c:Nat}:∀{x:List Nat} {r:List (List Nat)} {y:List Nat},c∈catL c (x::y::r):=by
 intro x r y;show c∈x++c::_;simp
theorem Cy{c:Nat}:∀{xs ys:List (List Nat)},xs≠[]->ys≠[]->(∀ x∈xs,c∉x)->(∀ y∈ys,c∉y)->catL c xs=catL c ys->xs=ys
 | [],_,h,_,_,_,_=>absurd rfl h
 | _,[],_,h,_,_,_=>absurd rfl h
 | [x],[y],_,_,_,_,h=>by
  have h':x=y:=h;rw[h']
 | [x],y::z::r,_,_,hx,_,h=>by
  have h':x=catL c (y::z::r):=h;exact absurd (h' ▸ Cw) (hx x Qm)
 | x::z::r,[y],_,_,_,hy,h=>by
  have h':catL c (x::z::r)=y:=h;exact absurd (h' ▸ Cw) (hy y Qm)
 | x::z::r,y::u::s,_,_,hx,hy,h=>by
  obtain⟨e1,e2⟩:=E2 (hx x Qm) (hy y Qm) (show x++c::catL c (z::r)=y++c::catL c (u::s) from h);rw[e1,Cy (by simp) (by simp) (λw a=>hx w (Qg _ a)) (λw a=>hy w (Qg _ a)) e2]
def IO(x y:Str):Txt.split x y≠[]:=by
 intro h;unfold Txt.split at h
 split at h
 . cases h
 . split at h
   . cases h
   . rw[StrLaws.partsBetween_eq]at h;obtain⟨p,r,e⟩:=StrLaws.partsFrom_ne x y.length 0 (occurrences x y 0 x.length (x.length+1));rw[e]at h;cases h
def IP{c:Nat}{a:List (List Nat)}(b:a≠[])(g:∀ r∈a,c∉r):Txt.split (tx (catL c a)) (tx [c])=a.map tx:=by
 have h1:=StrLaws.join_split (tx (catL c a)) (tx [c]);have h2:∀ p∈Txt.split (tx (catL c a)) (tx [c]),c∉p.cps.toList:=StrLaws.split_free _ c;have h3:=IO (tx (catL c a)) (tx [c]);generalize Txt.split (tx (catL c a)) (tx [c])=S at*
 have e:S=(S.map (·.cps.toList)).map tx:=by
  rw[QO]
  conv=>lhs;rw[← List.map_id S]
  exact S2 λx _=>(L8 x).symm
 rw[e,vS]at h1;have h4:=Hn h1;have h5:=Cy (c:=c) (xs:=S.map (·.cps.toList)) (ys:=a) (by simpa using h3) b (λx d=>by obtain⟨p,f,rfl⟩:=Qe.mp d;exact h2 p f) g h4;rw[e,h5]
end L2
namespace L2
end L2
namespace L2
open PySem PySem.Spec PyProof.Rows
local macro_rules|`(tactic|walk_at "w")=>wk9 ws1
local macro_rules|`(tactic|symm)=>`(tactic|walk_at "w")
section
variable{k:Nat}{tt:TT}{te:TE}{fin:Addr->Hp->Prop}{σ0:St}{H1:Hp}
def Ho {cs:List Nat} (b:Nat->Bool) (f:Nat->V) (y:cs.length<=900)
  (u:∀ i c H R,cs[i]? =some c->Same H1 H->(∀ a,Same H a->R (b i) a)->tt (σ0.set k (some (.str (tx [c])))) H R)
  (C:∀ i c H Q,cs[i]? =some c->b i=true->Same H1 H->(∀ a,Same H a->Q (f i) a)->te (σ0.set k (some (.str (tx [c])))) H Q)
  (A:∀ l H,H1 l=none->Same H1 H->H l=↥(((List.range cs.length).filter b).map f)->fin l H):
  CompR (Its (tx cs)) (gName k) tt te fin σ0 H1:=by
 intro l r;have j:(tx cs).cps.size=cs.length:=by simp[tx]
 refine⟨λi m σ H=>m=cs.length-i/\i<=cs.length/\(σ=σ0\/∃ o,σ=σ0.set k o)/\Same H1 H/\H l=↥(((List.range i).filter b).map f),⟨cs.length,by simp,QI _,.inl rfl,(P2 H1).laid r,by rw[ai];rfl⟩,?_⟩;rintro i m σ H ⟨rfl,D,z,n,s⟩;by_cases d:i<cs.length
 . refine .inr ⟨by show i < (tx cs).cps.size;rw[j];exact d,λσ H=>(σ=σ0\/∃ o,σ=σ0.set k o)/\Same H1 H/\H l=↥(((List.range (i+1)).filter b).map f),λE a w=>⟨cs.length - (i+1),by omega,rfl,d,w⟩,?_⟩;rintro x a ⟨rfl,c,v,rfl⟩;have h:cs[i]? =some c:=by simpa [tx] using v
   show gName k (.str (tx [c])) σ a _;rw[aP]
   have e:σ.set k (some (.str (tx [c])))=σ0.set k (some (.str (tx [c]))):=by
    rcases z with rfl | ⟨o,rfl⟩
    . rfl
    . exact RQ ..
   rw[e];refine u i c a _ h n λB p=>?_;have g:=p _ _ s
   cases q:b i with
   | false=>
    rw[Qp P7];refine⟨.inr ⟨_,rfl⟩,n.trans p,?_⟩;rw[Rc,QP,QW,q]
    simpa using g
   | true=>
    rw[Qt rfl];refine C i c B _ h q (n.trans p) λF t=>⟨_,t _ _ g,by rw[P0];exact aL (Qa (ow b d y) #[1]),.inr ⟨_,rfl⟩,((n.trans p).trans t).own r,?_⟩;rw[ai,Rc,QP,QW,q];simp
 . have e:i=cs.length:=by omega
   subst e;exact .inl ⟨by show(tx cs).cps.size<=_;rw[j];exact Qd _,A l H r n s⟩
end
def tz{α:Type}(xs:∅)(g:Int->α):(List.range xs.length).map (λi=>g (xs.getD i 0))=xs.map g:=by
 have e:xs=(List.range xs.length).map λi=>xs.getD i 0:=by
  refine Rp λi=>?_;rw[P5];by_cases h:i<xs.length
  . rw[Ra h,P1 h];simp[List.getD,h]
  . rw[Qr #[0],Qr (by simpa using h)];rfl
 conv=>rhs;rw[e]
 rw[QO];rfl
def ur{a:Str}{ts:List Str}(h1:ts.length<=1000)(h2:∀ t∈ts,t.length<=1000)(h3:a.length<=10):JoinOk a ts=true:=by
 unfold JoinOk;rw[Tt];refine StrLaws.joinFits (B:=1000) h2 ?_;have c:ts.length*1000<=1000*1000:=SW _ h1;have b:ts.length*a.length<=1000*10:=Nat.mul_le_mul h1 h3;omega
abbrev rIsN:R2:=λx y H Q=>y=.non/\Q (.bl (decide (x=.non))) H
abbrev rNotN:R2:=λx y H Q=>y=.non/\Q (.bl (!decide (x=.non))) H
def kStr:List V->Hp->VK->Prop
 | [.int i],H,Q=>i.natAbs.log2<1920/\Q (.str (Str.ofString (toString i))) H
 | _,_,_=>False
section
variable{X:Cx}
def gB:CallR X (.type "str") kStr:=by
 intro f s σ H d e Q I r h;unfold kStr at h
 split at h
 . obtain⟨a,q⟩:=h
   cases r with
   | cons b c=>
    cases c;obtain⟨t,rfl⟩:=b;exact PySem.P.str_of_int a ⟨.str _,H,I.tok _,⟨_,rfl⟩,q⟩
 . exact h.elim
end
section
variable{K:Frag}{H:Hp}{Q:VK}
def ip{x:V}:rIsN x .non H Q=Q (.bl (decide (x=.non))) H:=by simp[rIsN]
def fJ{x:V}:rNotN x .non H Q=Q (.bl (!decide (x=.non))) H:=by simp[rNotN]
def gF{i:Int}:kStr [.int i] H Q=(i.natAbs.log2<1920/\Q (.str (Str.ofString (toString i))) H):=rfl
end
structure Bt2(mg:Str->Option Value):Prop extends Bt mg where
 all_:mg "all"=none
 sum_:mg "sum"=none
 enumerate_:mg "enumerate"=none
section
variable{K:Frag}{H:Hp}{Q:VK}{D:Ends}{σ:St}{g:TG}{tb:TS}{ta:TA}{ix:List (Option Nat)}{tt:TT}{te tf:TE}{k:Nat}
def gG:tIf tt te tf σ H Q=tt σ H λc a=>if c=true then te σ a Q else tf σ a Q:=rfl
def bY:tComp ix (rZ ta) g tt te σ H Q=ta σ H λvs b=>∃ i j:Int,vs=[.int i,.int j]/\(-(2^62)<=i/\i<2^62/\ -(2^62)<=j/\j<2^62)/\CompR (Itr i (j-i).toNat) g tt te (λl a=>Q (.ref l) a) (subσ ix σ) b:=rfl
def bK:sComp k ix (rZ ta) g tt te D σ H=ta σ H λvs b=>∃ i j:Int,vs=[.int i,.int j]/\(-(2^62)<=i/\i<2^62/\ -(2^62)<=j/\j<2^62)/\CompR (Itr i (j-i).toNat) g tt te (λl a=>D.nx (σ.set k ↑l) a) (subσ ix σ) b:=rfl
def isiE{x:V}{n t:String}{b:Bool}(a:oq H x=some t)(d:vO n=true)(c:isTy t n=b):kIsi [x,.ty n] H Q=Q (.bl b) H:=by
 subst c;show(vO n=true/\bnd (oq H x) λt=>Q (.bl (isTy t n)) H)=_;rw[a];simp only[d,true_and,bD]
def bZ{i:Int}:kIsi [.int i,.ty "int"] H Q=Q (.bl true) H:=isiE (t:="int") rfl #[1] #[1]
def b4{i:Int}:kIsi [.int i,.ty "bool"] H Q=Q (.bl false) H:=isiE (t:="int") rfl #[1] #[1]
def b5{i:Int}:kIsi [.int i,.ty "str"] H Q=Q (.bl false) H:=isiE (t:="int") rfl #[1] #[1]
def b6{i:Bool}:kIsi [.bl i,.ty "bool"] H Q=Q (.bl true) H:=isiE (t:="bool") rfl #[1] #[1]
def b7{i:Bool}:kIsi [.bl i,.ty "int"] H Q=Q (.bl true) H:=isiE (t:="bool") rfl #[1] #[1]
def b8{i:Str}:kIsi [.str i,.ty "str"] H Q=Q (.bl true) H:=isiE (t:="str") rfl #[1] #[1]
def b9{i:Bool}:kIsi [.bl i,.ty "str"] H Q=Q (.bl false) H:=isiE (t:="bool") rfl #[1] #[1]
def d8{A B:Prop}:(if true=true then A else B)=A:=Qt rfl
def d9{A B:Prop}:(if false=true then A else B)=B:=Qp P7
def eh{i:Int}:rU (λi=>.int (-i)) (.int i) H Q=Q (.int (-i)) H:=by
 refine propext ⟨?_,λh=>⟨i,rfl,h⟩⟩;rintro⟨j,e,h⟩;cases e;exact h
def Cz {a:Addr} {xs:List V} (b:Nat->St->Hp->Prop) (h0:b 0 σ H) (n:∀ i σ H,i<=xs.length->b i σ H->SqL K H a xs)
  (k:∀ i x T σ H,xs[i]? =some x->b i σ H->H T=none->g (.ref T) σ (upd H T (.tup [.int i,x])) λo l=>tb {D with nx:=b (i+1),ct:=b (i+1),bk:=D.nx} o l) (r:∀ σ H,b xs.length σ H->D.nx σ H):
  LoopR (Ite K a) g tb D σ H:=by
 refine⟨λi m σ H=>m=xs.length-i/\i<=xs.length/\b i σ H,⟨xs.length,by simp,QI _,h0⟩,?_⟩;rintro i m σ H ⟨rfl,f,p⟩;have d:=n i σ H f p;by_cases c:i<xs.length
 . refine .inr ⟨⟨xs,xs[i],d,by simp[c]⟩,b (i+1),λs q j=>⟨xs.length - (i+1),by omega,rfl,c,j⟩,λv q y=>?_⟩;obtain⟨T,x,rfl,h,rfl,e1⟩:=y;exact k i x T σ H (e1 xs d) p h
 . have e:i=xs.length:=by omega
   subst e;exact .inl ⟨⟨xs,d,Qd _⟩,r σ H p⟩
def ixT{p:Addr}{i:Int}{xs:List V}{v:V}(h:H p=some (.tup xs))(e:atI xs i=some v)(q:Q v H):cIx (.ref p) (.int i) H Q:=by
 rw[jP h];exact bt e q
def ixL{p:Addr}{i:Int}{xs:List V}{v:V}(h:H p=↥xs)(e:atI xs i=some v)(q:Q v H):cIx (.ref p) (.int i) H Q:=by
 rw[Jx h];exact bt e q
def ixI{p:Addr}{i:Int}{ns:∅}(h:H p=↥(ns.map V.int))(h0:0<=i)(h1:i<ns.length)(q:Q (.int (ns.getD i.toNat 0)) H):cIx (.ref p) (.int i) H Q:=ixL h (xk h0 h1) q
end
inductive Tame:{α:Type}->Sem α->Prop
 | pure {α:Type} (a:α):Tame (Sem.pure a)
 | uns {α:Type} (w:String):Tame (Sem.unsupported w:Sem α)
 | load {α:Type} {a:Addr} {p:Option Value} {k:Obj->Sem α}:(∀ o,Tame (k o))->Tame (Sem.load a p k)
 | upd {α:Type} {a:Addr} {p:Option Value} {f:Obj->Obj} {k:Unit->Sem α}:(∀ o,(f o).dict=o.dict/\(f o).isFreed=o.isFreed)->Tame (k ())->Tame (Sem.update a p f k)
 | alc {α:Type} {o:Obj} {k:Addr->Sem α}:(∀ o,Tame (k o))->Tame (Sem.alloc o k)
 | stk {α:Type} {k:List (Code × Pos)->Sem α}:(∀ o,Tame (k o))->Tame (Sem.stack k)
 | bind {α β:Type} {m:Sem α} {f:α->Sem β}:Tame m->(∀ a,Tame (f a))->Tame (m >>= f)
def DK(h h':Heap):Prop:=∀ a o,h.get? a=some o->∃ b,h'.get? a=some b/\b.dict=o.dict
def DK.refl{h:Heap}:DK h h:=λ_ o e=>⟨o,e,rfl⟩
theorem Tame.wp{M:Model}{Γ:PySem.Ctx}{h0:Heap}{α:Type}{t:Sem α}(T:Tame t):∀{Q:α->Pos->Shared->Prop} {E:Value->Pos->Shared->Prop} {p:Pos} {s:Shared},DK h0 s.heap->Sem.wp M Γ t Q E p s->
  Sem.wp M Γ t (λa p s'=>Q a p s'/\DK h0 s'.heap) E p s:=by
 induction T with
 | pure a=>intro Q E p s d h;rw[Sem.wp_pure]at h ⊢;exact⟨h,d⟩
 | uns w=>intro Q E p s d h;rw[Sem.wp_unsupported]at h;exact h.elim
 | load _ c=>intro Q E p s d h;rw[Sem.wp_load]at h ⊢;obtain⟨o,e,h⟩:=h;exact⟨o,e,c o d h⟩
 | @upd _ a p f k l _ c=>
  intro Q E p s d h;rw[Sem.wp_update]at h ⊢;obtain⟨e,h⟩:=h;refine⟨e,c (λb o q=>?_) h⟩;obtain⟨g,i,z⟩:=d b o q;by_cases j:a=b
  . subst j;refine⟨f g,SE _ i ?_,(l g).1.trans z⟩;rw[(l g).2];exact(Heap.get?_some_iff.mp i).2
  . exact⟨g,(Sx _ _ j).trans i,z⟩
 | alc _ c=>intro Q E p s d h;rw[Sem.wp_alloc]at h ⊢;exact c _ (λb o q=>by obtain⟨g,i,z⟩:=d b o q;exact⟨g,Qb _ i,z⟩) h
 | stk _ c=>intro Q E p s d h;rw[Sem.wp_stack]at h ⊢;exact c _ d h
 | bind _ _ r n=>
  intro Q E p s d h;rw[Sem.wp_bind']at h ⊢;exact Sem.wp_mono M Γ _ (λa u s' m=>n a m.2 m.1) (λ_ _ _ x=>x) p s (r d h)
def Tame.any{M:Model}{A:Around}{α:Type}{t:Sem α}{Q c:α->Shared->Prop}{E:Value->Shared->Prop}{s:Shared}(T:Tame t)(h:wpAny M A t Q E s)(e:∀ a s',Q a s'->DK s.heap s'.heap->c a s'):wpAny M A t c E s:=
 λΓ p d=>Sem.wp_mono M Γ t (λa f s' b=>e a s' b.1 b.2) (λ_ _ _ x=>x) p s (T.wp .refl (h Γ p d))
def ut(a:Addr):Tame (load a):=.load λ_=>.pure _
def sw:Tame stack:=.stk λ_=>.pure _
def Bo(v:Value):Tame (fieldsOf v):=by
 unfold fieldsOf;split
 . refine .bind (ut _) λo=>?_
   split <;> first|exact .uns _|exact .pure _
 . first|exact .uns _|exact .pure _
def nQ(v:Value)(i:Nat):Tame (field v i):=by
 unfold field;refine .bind (Bo v) λ_=>?_
 split <;> first|exact .uns _|exact .pure _
def JT(f:Array Value->Array Value)(o:Obj):(o.mapFields f).dict=o.dict/\(o.mapFields f).isFreed=o.isFreed:=by
 obtain⟨c,d,a,b⟩:=o;cases a <;> exact⟨rfl,rfl⟩
def m3(v:Value)(i:Nat)(x:Value):Tame (setField v i x):=by
 unfold setField;split
 . unfold updateField;refine .bind (ut _) λo=>?_
   split
   . split
     . exact .upd (JT _) (.pure _)
     . first|exact .uns _|exact .pure _
   . first|exact .uns _|exact .pure _
 . first|exact .uns _|exact .pure _
def l5(e:Value)(f:Option Addr):Tame (setFlight e f):=by
 unfold setFlight;refine .bind (nQ _ _) λo=>?_
 split
 . exact m3 _ _ _
 . first|exact .uns _|exact .pure _
def FQ(f:Addr)(b:Bool):Tame (entryPlaceOf f b):=by
 unfold entryPlaceOf;refine .bind sw λo=>?_
 split <;> first|exact .uns _|exact .pure _
def En{n:String}{vs:List Value}:Tame (newFields n vs):=by
 have z:Tame (newObjAsIs (.type n) (.fields vs.toArray)):=by
  unfold newObjAsIs;exact .bind (.alc λ_=>.pure _) λ_=>.pure _
 unfold newFields newObj;show Tame (if vs.toArray.size>sizeLine+2 then _ else _)
 split
 . exact .bind (.uns _) λ_=>z
 . exact z
def Hq(env:Env)(b:Bool)(l:List Env):Tame (keptBack env b l):=by
 unfold keptBack
 split
 . split
   . first|exact .uns _|exact .pure _
   . exact .bind (.bind sw λ_=>.pure _) λ_=>.pure _
 . first|exact .uns _|exact .pure _
def IQ(env:Env)(l:List Env):Tame (behindIsImport env l):=by
 unfold behindIsImport
 split
 . first|exact .uns _|exact .pure _
 . split
   . first|exact .uns _|exact .pure _
   . exact .bind (nQ _ _) λ_=>.pure _
theorem yB:∀ l:List Env,Tame (readyFrames l)
 | []=>.pure _
 | env::l=>by
  unfold readyFrames
  split
  . refine .bind (ut _) λo=>?_
    split
    . first|exact .uns _|exact .pure _
    . refine .bind (IQ _ _) λ_=>.bind (Hq _ _ _) λ_=>.bind (.upd (λo=>⟨rfl,by cases o;rename_i a _;cases a <;> rfl⟩) (.pure _)) λ_=>yB l
  . first|exact .uns _|exact .pure _
def CA(env:Env):Tame (PySem.frameOf env):=by
 unfold PySem.frameOf frameEnvs;refine .bind (.bind sw λ_=>.pure _) λl=>.bind ?_ λo=>?_
 . unfold frameObject
   split
   . first|exact .uns _|exact .pure _
   . exact .bind (yB _) λ_=>.pure _
 . split <;> first|exact .uns _|exact .pure _
def AW(e:Value)(env:Env):Tame (noteFrame e env):=by
 unfold noteFrame
 have z:∀(c:Value) (f:Addr),Tame (do let a ← PySem.frameOf env;let pl ← entryPlaceOf f (c != .none);let b ← EntryCells.newEntry c a .none (rawInt f) .none pl;setField e 1 b):=λc f=>
  .bind (CA env) λ_=>.bind (FQ _ _) λ_=>.bind En λ_=>m3 _ _ _
 split
 . refine .bind (nQ _ _) λc=>?_
   split
   . refine .bind (nQ _ _) λ_=>?_
     split
     . first|exact .uns _|exact .pure _
     . exact .bind (m3 _ _ _) λ_=>z _ _
   . exact z _ _
 . first|exact .uns _|exact .pure _
def CB(env:Env)(e:Value):Tame («leaving» env e):=.bind (AW e env) λ_=>l5 e none
variable{P:Program}{h:Heap}
theorem ObjOk.ob{w:World}{H:Hp}{a:Addr}{o:HO}(x:ObjOk P w H h a o):∃ u,h.get? a=some u:=by
 cases o with
 | lst d=>obtain⟨_,_,_,_,e⟩:=x;exact⟨_,e⟩
 | tup d=>obtain⟨_,_,_,ob,e,_⟩:=x;exact⟨_,e⟩
 | dK c=>obtain⟨_,_,_,_,o,_,_,e,_⟩:=x;exact⟨_,e⟩
 | dT c=>obtain⟨_,_,_,_,o,_,_,e,_⟩:=x;exact⟨_,e⟩
 | set S n=>obtain⟨o,_,_,_,e,_⟩:=x;exact⟨_,e⟩
 | ins C g b=>obtain⟨_,_,_,e,_⟩:=x;exact⟨_,e⟩
 | own y=>exact x
 | xd b=>obtain⟨_,⟨_,_,_,e,_⟩,_⟩:=x;exact⟨_,e⟩
 | rng k i=>obtain⟨_,_,_,e⟩:=x;exact⟨_,e⟩
 | frz ob u=>obtain⟨e,_⟩:=x;exact⟨_,e⟩
 | tbl j=>exact⟨_,(show h.get? a=some _ from x)⟩
 | met f y=>exact⟨_,(show h.get? a=some _ from x)⟩
 | ext φ=>obtain⟨_,e,_⟩:=x;exact e
def Tr(h:Heap)(x T C:Addr)(d:Value):Prop:=∃ a vs c b e,h.get? x=some a/\a.cls=.ref C/\vs[0]? =some e/\a.data=.fields vs/\vs[1]? =↑T/\T≠x/\h.get? T=some c/\c.data=.fields b/\b[3]? =some d
structure Fly(P:Program)(w:World)(outer:List Env)(H:Hp)(s:Shared)(x T C:Addr)(H':Hp)(s':Shared):Prop where
 os:s'.os=s.os
 bare:AllBare s'.gens
 un:Un (frs outer) [] H H' s.heap s'.heap
 hok:HOk P w H' s'.heap
 fx:H' x=none
 fT:H' T=none
 nx:s.heap.get? x=none
 nT:s.heap.get? T=none
 tr:Tr s'.heap x T C .none
def DX(h:Heap)(x:Addr)(D:Option Addr):Prop:=∀ d,D=some d->∃ o,h.get? x=some o/\o.dict=some d
variable{x:Addr}
def DX.dk{h':Heap}{D:Option Addr}(z:DX h x D)(k:DK h h'):DX h' x D:=λd e=>by
 obtain⟨o,q,r⟩:=z d e;obtain⟨a,c,b⟩:=k x o q;exact⟨a,c,b.trans r⟩
def DX.no:DX h x none:=λ_ e=>nomatch e
def CX1(P:Program)(w:World):CXT:=λa H s E e c=>∃ x T C D b,e=.ref x/\Fly P w a H s x T C b c/\DX c.heap x D/\E (.ref C) D b
def IR {w:World} {env:Env} {c:List Env} {base:Heap} {H₀ H m:Hp} {v s sA:Shared} {h C L:Addr} {h':Heap} {ex:List Addr}
  (R:sA.os=v.os) (r:AllBare sA.gens) (Z:env.frame=some L) (nL:v.heap.get? L=none)
  (i:Un (frs c) [] H₀ H v.heap s.heap) (F:s.heap.FunFrames base (env::c)) (B:∀ b∈frs (env::c),H b=none)
  (j:Un (frs (env::c)) [] H m s.heap sA.heap) (y:HOk P w m sA.heap)
  (l:∀ b∈ex,s.heap.get? b=none/\m b=none)
  (g:∀ b o,sA.heap.get? b=some o->b∉frs (env::c)->b∉ex->h'.get? b=some o) (X:sA.heap.UpToSlots h')
  (nx:s.heap.get? x=none) (fx:m x=none) (Y:∀ o,sA.heap.get? h=some o->h∈frs (env::c)\/h∈ex)
  (tr:Tr h' x h C .none):Fly P w c H₀ v x h C m {sA with heap:=h'}:=by
 have A:∀ b∈frs (env::c),∃ o,s.heap.get? b=some o/\∀ vs,o.data≠.fields vs:=λb f=>(F.mem f).2
 have t:∀ b∈frs (env::c),∃ o,sA.heap.get? b=some o/\∀ vs,o.data≠.fields vs:=λb f=>by
  obtain⟨o,e,d⟩:=A b f;obtain⟨S,e2⟩:=j.slot b o e (B b f) f (by simp);exact⟨_,e2,d⟩
 have U:∀ b∈frs (env::c),m b=none:=λb f=>by
  obtain⟨o,e,d⟩:=A b f;exact j.free b o e (B b f) (by simp)
 have K:h∉frs (env::c):=λf=>by
  obtain⟨o,e,d⟩:=t h f;obtain⟨S,e2⟩:=X h o e d;obtain⟨_,_,oT,ts,_,_,_,_,_,_,_,E,O,_⟩:=tr;rw[e2]at E;cases E;exact d _ O
 have D:∀ b,b∈frs c->b∈frs (env::c):=λb f=>by
  unfold frs at f ⊢;rw[Rg,Z];exact Qg _ f
 have T:∀ b,b∈frs (env::c)->b=L\/b∈frs c:=λb f=>by
  unfold frs at f ⊢;rw[Rg,Z]at f;exact Qs.mp f
 have k:∀ b o,sA.heap.get? b=some o->b∉ex->∃ o',h'.get? b=some o':=λb o e Q=>by
  by_cases f:b∈frs (env::c)
  . obtain⟨p,e1,d1⟩:=t b f;rw[e]at e1;cases e1;obtain⟨S,e2⟩:=X b o e d1;exact⟨_,e2⟩
  . exact⟨o,g b o e f Q⟩
 have I:∀ b o,s.heap.get? b=some o->b∉ex:=λb o e Q=>by rw[(l b Q).1]at e;cases e
 refine⟨R,r,⟨λb o e n f _=>?_,λb o e n f _=>?_,λb o e n _=>?_,λb o e _=>?_,λb xs e=>j.tups b xs (i.tups b xs e),λb o u e=>j.frzs b o u (i.frzs b o u e),λb ps e=>?_⟩,?_,fx,?_,?_,?_,tr⟩
 . have e1:=i.keep b o e n f (by simp);have J:=i.free b o e n (by simp)
   have nb:b∉frs (env::c):=λz=>by
    rcases T b z with z | z
    . rw[z,nL]at e;cases e
    . exact f z
   exact g b o (j.keep b o e1 J nb (by simp)) nb (I b o e1)
 . obtain⟨S,e1⟩:=i.slot b o e n f (by simp);have J:=i.free b o e n (by simp);obtain⟨ab,e2⟩:=j.slot b _ e1 J (D b f) (by simp);obtain⟨o3,E,O⟩:=t b (D b f);rw[e2]at E;cases E;obtain⟨N,e4⟩:=X b _ e2 O;exact⟨N,e4⟩
 . have J:=i.free b o e n (by simp);obtain⟨p,e1⟩:=i.there b o e (by simp);exact j.free b p e1 J (by simp)
 . obtain⟨p,e1⟩:=i.there b o e (by simp);obtain⟨W,e2⟩:=j.there b p e1 (by simp);exact k b W e2 (I b p e1)
 . obtain⟨m1,e1⟩:=i.tbls b ps e;obtain⟨m2,e2⟩:=j.tbls b _ e1;exact⟨m1++m2,by rw[e2,S8]⟩
 . intro a o e;have M:∀ b,m b≠none->b∉frs (env::c)/\b∉ex:=λb f=>⟨λz=>f (U b z),λz=>f (l b z).2⟩;refine(y a o e).stay (λb u f q=>?_) (λ_ q=>q) λ_ _ q=>q
   have G:m b≠none:=by
    rcases f with rfl | f
    . rw[e];simp
    . rw[f];simp
   exact g b u q (M b G).1 (M b G).2
 . cases q:m h with
   | none=>rfl
   | some o=>
    obtain⟨u,e⟩:=(y h o q).ob;rcases Y u e with z | z
    . exact absurd z K
    . rw[(l h z).2]at q;cases q
 . cases q:v.heap.get? x with
   | none=>rfl
   | some o=>
    obtain⟨p,e1⟩:=i.there x o q (by simp);rw[nx]at e1;cases e1
 . cases q:v.heap.get? h with
   | none=>rfl
   | some o=>
    obtain⟨p,e1⟩:=i.there h o q (by simp);obtain⟨W,e2⟩:=j.there h p e1 (by simp);rcases Y W e2 with z | z
    . exact absurd z K
    . rw[(l h z).1]at e1;cases e1
theorem xo{h base:Heap}{a:List Addr}:∀{l:List Env},h.FunFrames base l->(∀ b∈frs l,b∈a)->h.FunFrames (PySem.W.hideAll h a) l
 | [],_,_=>trivial
 | env::r,⟨hk,⟨L,o,hf,_,ho,hd⟩,hr⟩,hin=>⟨hk,⟨L,o,hf,RL a (hin L (by unfold frs;rw[Rg,hf];exact Qm)),ho,hd⟩,xo hr λb c=>hin b (by
   unfold frs at c ⊢;rw[Rg,hf];exact Qg _ c)⟩
theorem Ab{h h1 base:Heap}{H d:Hp}{a:List Addr}:∀{l:List Env},h.FunFrames base l->(∀ b∈frs l,b∈a/\H b=none)->Un a [] H d h h1->h1.FunFrames base l
 | [],_,_,_=>trivial
 | env::r,⟨hk,⟨L,o,hf,hn,ho,hd⟩,hr⟩,hin,u=>by
  obtain⟨h1,h2⟩:=hin L (by unfold frs;rw[Rg,hf];exact Qm);obtain⟨f,e⟩:=u.slot L o ho h2 h1 (by simp);exact⟨hk,⟨L,_,hf,hn,e,hd⟩,Ab hr (λb c=>hin b (by unfold frs at c ⊢;rw[Rg,hf];exact Qg _ c)) u⟩
section
variable{P:Program}{w:World}{K:Frag}{mg:Str->Option Value}{base:Heap}{N:List Str}{qual:Str}{scope:Scope}{f:Addr}{cd:Value}{A:Around}{outer:List Env}{s₀:Shared}{H₀:Hp}{E:XK}
abbrev cx1(P:Program)(w:World)(K:Frag)(mg:Str->Option Value)(base:Heap)(N:List Str)(qual:Str)(scope:Scope)(f:Addr)(cd:Value)(A:Around)(outer:List Env)(s:Shared)(H:Hp)(E:XK):Cx:=
 cxOf (CX1 P w) P w K mg base N qual scope f cd A outer s H E
end
section
variable{prog:Program}{w:World}{A:Around}{E:Value->Shared->Prop}{h:Heap}{g:Array GenState}{d:Drawn}{t:Nat}{os:OsState}{K:Frag}{a C:Addr}{o:Obj}
structure XIs(K:Frag)(C:Addr):Prop where
 ga:findIn K (.ref C) "__getattribute__"=some (some (.builtin "BaseException.__getattribute__"))
 gx:findIn K (.ref C) "__getattr__"=some none
 cl:findIn K (.ref C) "__class__"=some (some (.builtin "object.__class__"))
 mo:PySem.W.mroIn K C (.type "object")=some true
 mb:PySem.W.mroIn K C (.type "BaseException")=some true
def qX{M:Model}{T:Value}{v:Bool}(X:K.In h)(a:PySem.W.mroIn K C T=some v):PySem.W.Looks M h (isSubtype (.ref C) T) v:=PySem.W.looks_mroIn X a
def L9{R:Result->Shared->Prop}(X:K.In h)(Z:XIs K C)(e:h.get? a=some o)(c:o.cls=.ref C)(i:R (.ok (.ret (.ref C))) ⟨h,g,d,t,os⟩):
  codeAny (model prog w) A (.call (.builtin "getset_descriptor.__get__") ⟨[.builtin "object.__class__",.ref a,.ref C],[]⟩) R ⟨h,g,d,t,os⟩:=by
 have b:(⟨h,g,d,t,os⟩:Shared).TypeIs (.builtin "object.__class__") "getset_descriptor":=SG;have f:PySem.W.Looks (model prog w) h (isSubtype (.ref C) (.type (".".intercalate ("object.__class__".cutAt '.').dropLast))) true:=by rw[F.owner_object_class];exact qX X Z.mo
 refine RT Ub.plain F.entry_gs_get (Ub.check _ _ _ _ _ _ _ _ b (F.args_gs_get _ _ _) ?_)
 repeat (any_goals (first | assumption | (with_reducible refine QL e ?_;rw[c]) | with_reducible refine f.at ?_ | wp_step))
 refine⟨Th _ (by decide+kernel),codeAny_builtin F.entry_object_class ?_⟩
 repeat (any_goals (first | assumption | (with_reducible refine QL e ?_;rw[c]) | wp_step))
def JU{e:Tok}{Q:Fin->Shared->Prop}(X:K.In h)(Z:XIs K C)(c:h.get? a=some o)(b:o.cls=.ref C)(k:Q (.done (.ret (.ref C))) ⟨h,g,d,t,os⟩):
  wpAny (model prog w) A (Builtin.«object.__getattribute__» ⟨[.ref a,.str "__class__" e],[]⟩) Q E ⟨h,g,d,t,os⟩:=by
 have f:(⟨h,g,d,t,os⟩:Shared).TypeIs (.builtin "object.__class__") "getset_descriptor":=SG;have j:=SG;have l:=Ub.lookup;have m:=F.slot_gs_set.lookup;have i:=Q7 (M:=model prog w) X Z.cl
 repeat (any_goals (first | assumption | (with_reducible refine QL c ?_;rw[b]) | with_reducible refine i.at ?_ | wp_step))
 refine L9 X Z c b ?_
 repeat (any_goals (first | assumption | wp_step))
def E3{M:Model}{b:Value}{Q:Unit->Shared->Prop}(X:K.In h)(Z:XIs K C)(k:h.get? a=some o)(i:o.cls=.ref C)(e:Q () ⟨h,g,d,t,os⟩):wpAny M A (checkBuiltinCall "BaseException.__getattribute__" ⟨[.ref a,b],[]⟩) Q E ⟨h,g,d,t,os⟩:=by
 have f:builtinKind "BaseException.__getattribute__"=some .slot:=by decide+kernel
 have c:splitId "BaseException.__getattribute__"=some ("BaseException","__getattribute__"):=by decide+kernel
 have j:=qX (M:=M) X Z.mb;have l:=F.args_bexc_ga (.ref a) b;simp only[checkBuiltinCall,f,c];refine Qq ?_
 . unfold isInstance
   repeat (first | (with_reducible refine QL k ?_;rw[i]) | with_reducible refine j.at ?_ | wp_step)
   exact e
def Ld{e:Tok}{R:Result->Shared->Prop}(X:K.In h)(Z:XIs K C)(c:h.get? a=some o)(b:o.cls=.ref C)(f:R (.ok (.ret (.ref C))) ⟨h,g,d,t,os⟩):
  codeAny (model prog w) A (.call (.builtin "BaseException.__getattribute__") ⟨[.ref a,.str "__class__" e],[]⟩) R ⟨h,g,d,t,os⟩:=
 RT Sz.ga.plain F.entry_bexc_ga (E3 X Z c b (JU X Z c b f))
def Mq{k:Tok}{c b:Bool}{Q:Value->Shared->Prop}(X:K.In h)(Z:XIs K C)(i:h.get? a=some o)(f:o.cls=.ref C)(q:Q (.ref C) ⟨h,g,d,t,os⟩):
  wpAny (model prog w) A (getAttrBy (.ref a) (.str "__class__" k) c b) Q E ⟨h,g,d,t,os⟩:=by
 have p:=Sz.ga.bind (.ref a);have j:(b&&onTheHeap (Value.builtin "BaseException.__getattribute__"))=false:=by cases b <;> rfl
 have e:(Value.builtin "BaseException.__getattribute__"==Value.builtin "object.__getattribute__")=false:=by decide+kernel
 have l:(onTheHeap (Value.ref C)&&Value.builtin "BaseException.__getattribute__"==Value.builtin "object.__getattribute__")=false:=by rw[e];rfl
 have n:=Q7 (M:=model prog w) X Z.ga;have m:=Q7 (M:=model prog w) X Z.gx
 repeat (any_goals (first | assumption | (with_reducible refine QL i ?_;rw[f]) | with_reducible refine n.at ?_ | with_reducible refine m.at ?_ | wp_step))
 refine Ld X Z i f ?_
 repeat (any_goals (first | assumption | wp_step))
def Le{Q:Option Value->Shared->Prop}(X:K.In h)(Z:XIs K C)(c:h.get? a=some o)(b:o.cls=.ref C)(e:Q ↑C ⟨h,g,d,t+1,os⟩):
  wpAny (model prog w) A (getAttr? (.ref a) "__class__") Q E ⟨h,g,d,t,os⟩:=by
 unfold getAttr? getAttrBy?
 repeat (any_goals (first | assumption | with_reducible apply Mq X Z c b | wp_step))
def XO(a C:Addr)(D:Option Addr:=none):Heap->Prop:=λh=>∃ o vs,h.get? a=some o/\o.cls=.ref C/\o.data=.fields vs/\∀ d,D=some d->o.dict=some d
def E4(Z:XIs K C):∃ a d' d e,K.lookup C=some ⟨a,d',.cls d,e⟩:=by
 have:=Z.mo;unfold PySem.W.mroIn PySem.W.clsIn at this
 split at this
 . rename_i a d' c b f
   exact⟨_,_,_,_,f⟩
 . cases this
def IS{D:Option Addr}(Z:XIs K C):PySem.W.KitX K (.ref a) (.ref C) (XO a C D) where
 ty:=λM h _ ⟨o,vs,f,c,_⟩=>by
  intro A Q E s k q;unfold typeOf;refine Qq (Tc (k _ _ f) ?_);rw[c];exact QN q
 it:=λM h X _=>by
  obtain⟨l,p,u,v,i⟩:=E4 Z;intro A Q E s k q;unfold isType loadHead;exact Qq (Tc (k _ _ (X _ _ i)) (QN q))
 ne:=λh m x y n v X b=>by
  obtain⟨l,p,u,j,i⟩:=E4 Z;refine Bool.eq_false_iff.mpr λq=>?_;have e:C=m:=Value.ref.inj (RV.mp q);subst e;have z:=(X _ _ i).symm.trans b;cases z
 ca:=λ{prog w A E Q s} X ⟨o,vs,f,c,_⟩ r=>by
  obtain⟨h,g,d,t,os⟩:=s;exact Le X Z f c r
end
def cvOf:V->Option Value
 | .ref p=>↑p
 | .ty n=>some (.type n)
 | _=>none
theorem IT{c:V}{a u:Value}(h:cvOf c=some a)(r:RelV c u):u=a:=by
 cases c with
 | ref p=>cases h;cases r;rfl
 | ty n=>cases h;cases r;rfl
 | _=>cases h
def kIsX(K:Frag):List V->Hp->VK->Prop:=λvs H Q=>∃ a C D c d b,vs=[.ref a,c]/\H a=some (.ext (XO a C D))/\XIs K C/\cvOf c=some d/\PySem.W.kitOne K (.ref C) d=some b/\Q (.bl b) H
def dO{X:Cx}:CallR X (.builtin "isinstance") (kIsX X.K):=by
 intro n s σ H o t Q I r h;obtain⟨a,C,D,c,l,b,rfl,g,Z,i,j,q⟩:=h;obtain⟨u,m,rfl,k,d⟩:=vJ r;cases k;have e:m=l:=IT i d;subst e;obtain⟨p,_⟩:=I.hok a _ g;exact Rb (IS Z) I.kIn p j (λz=>nomatch z) λf=>⟨.bl b,H,I.tok f,rfl,q⟩
abbrev VE:List Value:=[.type "ValueError",.type "Exception",.type "BaseException",.type "object"]
def xp(e:DictEntry):Bool:=match e.key with | .str _ _=>true | _=>false
def uu(K:Frag)(N:Addr):Bool:=match K.lookup N with
 | some ⟨_,_,.dict es _,_⟩=>es.toList.all xp&&(nsFind es "__init__").isNone
 | _=>false
def Hr{K:Frag}{N:Addr}{h:Heap}(X:K.In h)(e:uu K N=true):∃ a,h.Ns N a/\a "__init__"=none:=by
 unfold uu at e
 split at e
 . rename_i c d b f k j
   simp only[Qy]at e;refine⟨nsFind b,⟨_,b,f,X _ _ j,rfl,λg i=>?_,λ_=>rfl⟩,Option.isNone_iff_eq_none.mp e.2⟩;have:=Qj.mp e.1 g (Array.mem_def.mp i);unfold xp at this
   split at this
   . rename_i n t q;exact⟨n,t,q⟩
   . cases this
 . cases e
section
variable{P:Program}{w:World}{K:Frag}{mg:Str->Option Value}{base:Heap}
def Fun.ok1 {x b:Str} {st:Stmt} {f:Addr} {i:FuncData} {N g:List Str} {k:Nat} {sp:Sp} (F:Fun K x b st f i) (S:ki N g (aZ st)) (len:∀ vs H Q E,sp vs H Q E->vs.length=g.length)
  (c:∀(d:Value) (A:Around) (a:List Env) (s:Shared) (H:Hp) (vs:List V) (Q:VK) (E:XK),Room k (A.deeper (envOfC b (aZ st) s.heap.objs.size f d))->sp vs H Q E->
   ∃ t,PSs (cx1 P w K mg base N b (aZ st) f d A a s H E) (cN st) t/\t (eD9 Q) (start N vs) H):FnOk P w K mg base (CX1 P w) (k+1) f i g sp:=by
 obtain⟨q,r,p,l,o,v,d,u,m,rfl,j,h⟩:=F.ex;exact Ju j h S len λA a s H vs Q E n e=>c d A a s H vs Q E n e
end
section
variable{X:Cx}{PN:List (Addr × Obj)}{σ:St}{H:Hp}{s s':Shared}
def Hs{l:Hp}{x T C:Addr}{a0:Value}{h5:Heap}{D:Option Addr}(dx:DX h5 x D)(I:Inv X PN σ H s)(F:Fly X.prog X.w X.stack H s x T C l s')(N:Heap.FlyingW (PySem.W.hideAll s'.heap (frs X.stack++[x,T])) X.stack x (.ref C) a0 h5)(Y:s'.heap.UpToSlots h5):
  Inv X PN σ (upd l x (.ext (XO x C D))) {s' with heap:=h5}:=by
 obtain⟨k1,_,_,G,vs,Z,oT,ts,E,O,S,_⟩:=N;have c:∀ b o,s'.heap.get? b=some o->b∉frs X.stack->b∉[x,T]->h5.get? b=some o:=λb o e f Q=>k1 b o (Sj _ e λz=>(QD.mp z).elim f Q);have p:∀ b∈frs X.stack,∃ o,s.heap.get? b=some o/\∀ vs,o.data≠.fields vs:=λb f=>(I.stack.mem f).2;have h:=I.stkFree
 have j:∀ b o,s.heap.get? b=some o->b∉[x,T]:=λb o e z=>by
  simp only[Qs,Rf,Sn]at z;rcases z with rfl | rfl
  . rw[F.nx]at e;cases e
  . rw[F.nT]at e;cases e
 have g:∀ b o,s.heap.get? b=some o->H b=none->b∈frs X.stack->∃ y,h5.get? b=some {o with slots:=y}:=λb o e n f=>by
  obtain⟨y,e1⟩:=F.un.slot b o e n f (by simp);obtain⟨o2,e2,U⟩:=p b f;rw[e]at e2;cases e2;obtain⟨v,P⟩:=Y b _ e1 U;exact⟨v,P⟩
 have B:∀ b∈frs X.stack,l b=none:=λb f=>by
  obtain⟨o,e,d⟩:=p b f;exact F.un.free b o e (h b f) (by simp)
 have t:∀ b o,l b=some o->b≠x:=λb o e z=>by rw[z,F.fx]at e;cases e
 have A:ObjOk X.prog X.w (upd l x (.ext (XO x C D))) h5 x (.ext (XO x C D)):=⟨⟨G,vs,E,O.1,S,λd e=>by obtain⟨o,q,r⟩:=dx d e;rw[E]at q;cases q;exact r⟩,⟨G,E⟩,λh1 h2 ⟨o,vs,q,r⟩ k=>⟨o,vs,k o q,r⟩⟩;refine I.call' (ch:=[]) F.os ⟨λb o e n f _=>?_,λb o e n f _=>?_,λb o e n _=>?_,λb o e _=>?_,λb K e=>?_,λb o u e=>?_,λb M e=>?_⟩ (λa o e=>?_) F.bare λb z=>absurd z (by simp)
 . exact c b o (F.un.keep b o e n f (by simp)) f (j b o e)
 . exact g b o e n f
 . have R:=F.un.free b o e n (by simp);rw[ap λz=>j b o e (by rw[z];simp)];exact R
 . by_cases f:b∈frs X.stack
   . obtain⟨y,e1⟩:=g b o e (h b f) f;exact⟨_,e1⟩
   . obtain⟨J,e1⟩:=F.un.there b o e (by simp);exact⟨J,c b J e1 f (j b o e)⟩
 . have q:=F.un.tups b K e;rw[ap (t b _ q)];exact q
 . have q:=F.un.frzs b o u e;rw[ap (t b _ q)];exact q
 . obtain⟨m,q⟩:=F.un.tbls b M e;exact⟨m,by rw[ap (t b _ q)];exact q⟩
 . by_cases L:a=x
   . subst L;rw[ai]at e;cases e;exact A
   . rw[ap L]at e;refine(F.hok a o e).stay (λb u f q=>?_) (λb q=>?_) λb K q=>?_
     . have i:l b≠none:=by
        rcases f with rfl | f
        . rw[e];simp
        . rw[f];simp
       refine c b u q (λz=>i (B b z)) λz=>?_;simp only[Qs,Rf,Sn]at z;rcases z with rfl | rfl
       . exact i F.fx
       . exact i F.fT
     . rw[ap (t b _ q)];exact q
     . rw[ap (t b _ q)];exact q
def vT {M:Model} {A:Around} {E:Value->Shared->Prop} {i:Nat} {x:Str} {pos:Pos} {Q:Unit->Shared->Prop} (I:Inv X PN σ H s) (U:X.N.Nodup) (F:X.N[i]? =some x) (hk:X.env.kindOf x=some .local)
  (h:∀ s',Inv X PN (σ.set i none) H s'->Q () s'):wpAny M A (do bindName X.env x .none;unbindBehindTheSuite X.env x pos) Q E s:=by
 obtain⟨m,G,W⟩:=id I.loc;have r:(X.env.scope.kind==.class||(X.env.scope.kind==.module&&X.env.locals != X.env.globals))=false:=by rw[I.ok.kind];rfl
 have u:i<σ.length:=by rw[I.len];exact(P8.mp F).1
 have l:=I.cne;refine wpAny_nameGoes_keeps hk G r λZ v C f=>?_;obtain⟨oL,_,_,ab,_⟩:=id G
 have a:HOk X.prog X.w H Z:=λb L e=>by
  refine(I.hok b L e).stay (λc K t q=>(f.2 c ?_).trans q) (λ_ q=>q) λ_ _ q=>q;rintro rfl;rcases t with rfl | t
  . rw[I.free]at e;cases e
  . rw[I.free]at t;cases t
 refine h _ ⟨I.ok,I.os,I.bare,⟨λb o e n B g=>?_,λb o e n B g=>?_,I.base.free,λb o e g=>?_,I.base.tups,I.base.frzs,I.base.tbls⟩,⟨_,C,λj y R e1 e2 P=>?_⟩,λy c e=>?_,I.free,I.freeC,λp T=>?_,a,by simpa using I.len⟩
 . exact(f.2 b (QH (Qv (Qo e) I.ok.above))).trans (I.base.keep b o e n B g)
 . obtain⟨Y,e1⟩:=I.base.slot b o e n B g;exact⟨Y,(f.2 b (QH (Qv (Qo e) I.ok.above))).trans e1⟩
 . obtain⟨O,e1⟩:=I.base.there b o e g;exact⟨O,(f.2 b (QH (Qv (Qo e) I.ok.above))).trans e1⟩
 . by_cases D:j=i
   . subst D;rw[Ss u]at e2;cases e2
   . rw[SV (S3 D)]at e2;obtain⟨S,r',q⟩:=W j y R e1 e2 P;refine⟨S,r',?_⟩;rcases q with ⟨k,e⟩ | ⟨k,c,e,z⟩
     . refine .inl ⟨k,?_⟩;have:y≠x:=λe=>D (xc U e1 (e ▸ F));simp[this,e]
     . exact .inr ⟨k,c,e,z.sameBut f (l y c e)⟩
 . obtain⟨K,z⟩:=I.cell y c e;exact⟨K,z.sameBut f (l y c e)⟩
 . obtain⟨e,n,J,nf,d⟩:=I.pin p T;exact⟨(f.2 p.1 J).trans e,n,J,nf,d⟩
end
abbrev Cx.caught(X:Cx)(x:Addr):Cx:={X with A:=X.A.mark ↑x,calm:=false,xe:=λ_ _=>False}
section
variable{X:Cx}{PN:List (Addr × Obj)}{σ:St}{H:Hp}{s:Shared}{x:Addr}
def Cx.Ok.caught(a:X.Ok):(X.caught x).Ok:=
 ⟨a.mod,a.kind,a.glob,a.blt,a.above,a.inj,a.has,a.cab,(λz=>nomatch z),a.frames,a.stk,a.exf,a.bs,a.bsz,a.noex,a.exfs,a.funs,a.frf⟩
def Inv.caught(I:Inv X PN σ H s):Inv (X.caught x) PN σ H s:=⟨I.ok.caught,I.os,I.bare,I.base,I.loc,I.cell,I.free,I.freeC,I.pin,I.hok,I.len⟩
def Inv.uncaught(a:X.Ok)(I:Inv (X.caught x) PN σ H s):Inv X PN σ H s:=⟨a,I.os,I.bare,I.base,I.loc,I.cell,I.free,I.freeC,I.pin,I.hok,I.len⟩
end
def Came(X:Cx)(c:List (Addr × Obj))(σ:St)(E:XK)(e:Value)(s':Shared):Prop:=∃ b a,Inv X c σ b a/\CX1 X.prog X.w X.stack b a E e s'
section
variable{X:Cx}{k:Nat}{f:Addr}{fd:FuncData}{ps:List Str}{sp:Sp}{x:Str}{p pos:Pos}{e:Expr}{es:List Expr}{t:TA}
theorem JV {g:List (Addr × Obj)} {s:Shared} {σ:St} {H:Hp} {Q:VK} (E:XK) (l:∀ e s,X.xe e s->False) (F:FnOk X.prog X.w X.K X.mg X.base (CX1 X.prog X.w) k f fd ps sp) (D:Room k X.A) (o:Gl X x) (B:X.mg x=↑f) (J:keepIn X.K (.ref f)=true) (y:Binds X.K fd ps [])
  (L:PA X (e::es) t) (I:Inv X g σ H s) (h:t σ H λvs d=>sp vs d Q E) (j:(x==("__debug__":Str))=false:=by decide) (G:starEach (e::es) X.env=(false,eval e X.env)::starEach es X.env:=by rfl) (i:(backTo pos (starEach es X.env)).any (·.1)=false:=by rfl):
  wpAny (model X.prog X.w) X.A (eval (.Call (.Name x p) (e::es) [] pos) X.env) (EP X g σ Q) (Came X g σ E) s:=by
 refine Rm (lY I o B ?_ j);refine R7 (h₀:=X.base) I.ok.mod.kin J (QX (L pos g s σ H _ I h) (λb m ⟨vs,d,a,r,q⟩=>⟨a.kIn,?_⟩) λe s z=>(l e s z).elim) G i;have n:Vals vs (b++[]):=by simpa using r
 have C:(b++[]).length=ps.length:=by rw[← n.length];exact F.len _ _ _ _ q
 refine Td (S5 (F.run X.A X.stack m d ⟨b,[]⟩ (b++[]) vs Q E D a.env0 (y m b a.kIn C) n q) λr M c=>?_)
 cases r with
 | error e=>exact⟨d,m,a,c⟩
 | ok v=>
  cases v with
  | ret u=>exact a.after c
  | next=>exact False.elim c
  | brk=>exact False.elim c
  | cont=>exact False.elim c
def E5(b:Bool)(K:Frag)(f:Value)(i:Nat)(E:XK)(th:TS):TS:=λD σ _=>∀ C e d,E (.ref C) e d->PySem.W.exmOne K (.ref C) f=some true/\∀ x,d x=none->
 th {nx:=λc a=>D.nx (c.set i none) a,rt:=D.rt,bk:=λc a=>D.bk (c.set i none) a,ct:=λc a=>D.ct (c.set i none) a} (σ.set i ↑x) (upd d x (.ext (XO x C (bif b then e else none))))
def JW{M:Model}{a C:Addr}{D:Option Addr}{h:Heap}(z:XO a C D h):PySem.W.Looks M h (typeOf (.ref a)) (.ref C):=by
 obtain⟨o,vs,c,b,_⟩:=z;intro A Q E s k q;unfold typeOf;refine Qq (Tc (k _ _ c) ?_);rw[b];exact QN q
theorem Ht {bb:Bool} {PN:List (Addr × Obj)} {s':Shared} {σ:St} {H:Hp} {D:Ends} {E:XK} {i:Nat} {n S:Str} {cv e:Value} {np J:Pos} {b₀:Stmt} {f:List Stmt} {th:TS} (P:X.N.Nodup) (G:X.N[i]? =some n) (a:X.env.kindOf n=some .local) (hg:Gl X S) (hm:X.mg S=some cv)
  (j:X.stack=X.env::X.outer) (hf:X.env.frame=some X.env.locals) (hs:∀ x,PSs (X.caught x) (b₀::f) th) (hc:Came X PN σ E e s') (h:E5 bb X.K cv i E th D σ H) (Z:(S==("__debug__":Str))=false:=by decide):
  wpAny (model X.prog X.w) X.A (noteFrame e X.env) (λ_ s₂=>wpAny (model X.prog X.w) X.A (setFlight e none) (λ_ s₃=>wpAny (model X.prog X.w) X.A (handleBy e X.env [.ExceptHandler (some (.Name S np)) (some n) (b₀::f) J]) (SP X PN D) X.xe s₃) X.xe s₂) X.xe s':=by
 obtain⟨H1,s1,I,x,T,C,Dx,H',rfl,F,af,q⟩:=hc;obtain⟨hC,ac⟩:=h C Dx H' q;have dx:DX s'.heap x (bif bb then Dx else none):=by cases bb;exact .no;exact af
 obtain⟨oe,vs,oT,ts,m,he,ae,h0,hd,h1,U,hT,Y,h3⟩:=F.tr;have ff:s'.heap.FunFrames X.base X.stack:=Ab I.stack (λb R=>⟨R,I.stkFree b R⟩) F.un
 have fl:Heap.FlyingW (PySem.W.hideAll s'.heap (frs X.stack++[x,T])) X.stack x (.ref C) m s'.heap:=
  ⟨λb o e=>S9 _ e,RL _ (by simp),xo ff λb R=>RN _ R,oe,vs,T,oT,ts,he,⟨ae,h0⟩,hd,h1,RL _ (by simp),U,hT,Y,h3⟩
 have O:=fl;rw[j]at O;have ab:X.A.frames=some (X.env::X.outer):=by rw[I.ok.frames,j]
 refine(AW _ _).any (wpAny_looks_onW (Q:=λ_ L=>∃ d,L={s' with heap:=d}/\Heap.HeldW (PySem.W.hideAll s'.heap (frs (X.env::X.outer)++[x,T])) (X.env::X.outer) x (.ref C) m X.env.locals d/\s'.heap.UpToSlots d) ab hf O λh4 c k=>⟨h4,rfl,c,k⟩) ?_;rintro _ _ ⟨h4,rfl,c,k⟩ k4;refine(l5 _ _).any (wpAny_landsW (Q:=λ_ L=>∃ d,L={s' with heap:=d}/\Heap.FlyingW (PySem.W.hideAll s'.heap (frs (X.env::X.outer)++[x,T])) (X.env::X.outer) x (.ref C) m d/\h4.UpToSlots d) c λh5 l g=>⟨h5,rfl,l,g⟩) ?_;rintro _ _ ⟨h5,rfl,l,g⟩ k5;have d5:=(dx.dk k4).dk k5;have I5:=Hs (a0:=m) (h5:=h5) d5 I F (by rw[j];exact l) (k.trans g);refine wpAny_handleBy_cons (codeAny_handlers_test (lY (X:=X.caught x) I5.caught hg hm ?_ Z)) (by intro q;cases q);have ag:XO x C _ h5:=(I5.hok x _ ai).1;refine(PySem.W.exm_one (M:=model X.prog X.w) (h:=h5) I5.kIn (JW ag) hC).here ?_;refine codeAny_handlers_suite_as ?_;refine(l5 _ _).any (lands_againW (Q:=λ_ L=>∃ d,L={s' with heap:=d}/\Heap.FlyingW (PySem.W.hideAll s'.heap (frs (X.env::X.outer)++[x,T])) (X.env::X.outer) x (.ref C) m d/\h5.UpToSlots d) l λh6 y s=>⟨h6,rfl,y,s⟩) ?_;rintro _ _ ⟨h6,rfl,y,s⟩ k6;have I6:=Hs (a0:=m) (h5:=h6) (d5.dk k6) I F (by rw[j];exact y) ((k.trans g).trans s);refine rX (X:=X.caught x) (v:=.ref x) I6.caught P G (.inl a) rfl (λs7 I7=>?_) (.inr a);refine QX (hs x PN s7 _ _ _ I7 (ac x F.fx)) (λfw s8 h8=>?_) λ_ _ z=>z.elim
 cases fw with
 | next=>obtain⟨σ',t,p,r⟩:=h8;exact vT (p.uncaught I.ok) P G a λs' B=>⟨_,t,B,r⟩
 | brk=>obtain⟨σ',t,p,r⟩:=h8;exact vT (p.uncaught I.ok) P G a λs' B=>⟨_,t,B,r⟩
 | cont=>obtain⟨σ',t,p,r⟩:=h8;exact vT (p.uncaught I.ok) P G a λs' B=>⟨_,t,B,r⟩
 | ret u=>obtain⟨v,σ',t,p,r9,r⟩:=h8;exact vT (p.uncaught I.ok) P G a λs' B=>⟨v,_,t,B,r9,r⟩
end
def E6(a:Array DictEntry):Bool:=a.toList.all xp&&(nsFind a "__init__").isNone
variable{K:Frag}
def Hu{N:Addr}{c:Value}{d:Option Addr}{a:Array DictEntry}{n:Nat}{b:Array (Option Value)}(l:K.lookup N=some ⟨c,d,.dict a n,b⟩)(h:E6 a=true):uu K N=true:=by
 unfold uu;rw[l];exact h
structure EA where
 ClueError:Addr
 NoFloor:Addr
 NoFilling:Addr
 NoRule:Addr
 NoPuzzle:Addr
 TooMany:Addr
 NotOne:Addr
 NoMove:Addr
 NoText:Addr
 NoName:Addr
 NoRow:Addr
 BadThought:Addr
abbrev Glb(K:Frag)(x:Str)(C:Addr):Prop:=nsIn K mainGlobals x=some ↑C
def IU{C:Addr}:PySem.W.kitOne K (.ref C) (.ref C)=some true:=by
 unfold PySem.W.kitOne;rw[Qt (by simp)]
variable{D:Option Addr}
def Jy{x C y:Addr}{b:Bool}{H:Hp}{Q:VK}(Z:XIs K C)(c:H x=some (.ext (XO x C D)))(a:PySem.W.kitOne K (.ref C) (.ref y)=some b)(h:Q (.bl b) H):kIsX K [.ref x,.ref y] H Q:=⟨x,C,D,_,_,b,rfl,c,Z,rfl,a,h⟩
def Lf{x C:Addr}{n:String}{b:Bool}{H:Hp}{Q:VK}(Z:XIs K C)(c:H x=some (.ext (XO x C D)))(a:PySem.W.kitOne K (.ref C) (.type n)=some b)(h:Q (.bl b) H):kIsX K [.ref x,.ty n] H Q:=⟨x,C,D,_,_,b,rfl,c,Z,rfl,a,h⟩
def Bp:bootBuiltins "ValueError"=some (.type "ValueError"):=by decide+kernel
structure Lg(P:Program)(w:World)(K:Frag)(mg:Str->Option Value)(base:Heap)(k:Nat)(x:Str)(ps:List Str)(sp:Sp):Prop where
 ex:∃(f:Addr) (fd:FuncData),FnOk P w K mg base (CX1 P w) k f fd ps sp/\mg x=↑f/\keepIn K (.ref f)=true/\Binds K fd ps []
def cMulB:R2
 | .int i,.int j,H,Q=>IntMulOk i j/\Q (.int (i*j)) H
 | _,_,_,_=>False
end L2
namespace Att
open PySem PySem.W PySem.Calls PyProof.Rows
end Att
namespace L2
open PySem PySem.Spec PyProof.Rows
section
variable{K:Frag}{H:Hp}{Q:VK}{D:Ends}{σ:St}
def Mt{i j:Int}:cMulB (.int i) (.int j) H Q=(IntMulOk i j/\Q (.int (i*j)) H):=rfl
def iq{i j:Int}:cPow (.int i) (.int j) H Q=(CPow i j/\Q (.int (i^j.toNat)) H):=rfl
def E7{ix:List (Option Nat)}{c:TE}{g:TG}{e:TT}{b:TE}:tComp ix (iTup K c) g e b σ H Q=c σ H λx d=>∃ a,x=.ref a/\(∃ xs,SqT K d a xs)/\CompR (Itt K a) g e b (λl f=>Q (.ref l) f) (subσ ix σ) d:=rfl
def FR{p:Addr}{bs:List Bool}(b:H p=↥(bs.map V.bl))(h:Q (.bl (bs.any id)) H):kAny [.ref p] H Q:=by
 show bnd (unL (H p)) _;rw[b];exact bt (a:=bs.map V.bl) rfl ⟨bs,rfl,h⟩
def jC{p q:Addr}{xs ys:List V}(c:H p=↥xs)(b:H q=↥ys)(d:xs.length+ys.length<=1000)(h:∀ r,H r=none->Q (.ref r) (upd H r (.lst (xs++ys)))):cAdd (.ref p) (.ref q) H Q:=by
 show bnd (unM (H p)) _;rw[c];refine bt (a:=xs) rfl ?_;rw[b];exact bt (a:=ys) rfl ⟨QT (aL d),h⟩
def IV {g:TG} {o:TT} {r:TE} {a:Addr} {xs:List V} {j:Addr->Hp->Prop} {t:St} {f:Hp} (d:Addr->Nat->St->Hp->Prop) (h0:∀ l,f l=none->d l 0 t (upd f l (.lst []))) (w:∀ l i σ H,f l=none->i<=xs.length->d l i σ H->SqT K H a xs)
  (B:∀ l i x σ H,f l=none->xs[i]? =some x->d l i σ H->g x σ H λk C=>o k C λb s=>if b=true then r k s λy n=>∃ ys,n l=↥ys/\ys.length<sizeLine/\d l (i+1) k (upd n l (.lst (ys++[y]))) else d l (i+1) k s)
  (A:∀ l σ H,f l=none->d l xs.length σ H->j l H):CompR (Itt K a) g o r j t f:=by
 intro l c;refine⟨λi m σ H=>m=xs.length-i/\i<=xs.length/\d l i σ H,⟨xs.length,by simp,QI _,h0 l c⟩,?_⟩;rintro i m σ H ⟨rfl,u,p⟩;have q:=w l i σ H c u p;by_cases h:i<xs.length
 . refine .inr ⟨⟨xs,xs[i],q,by simp[h]⟩,d l (i+1),λD z v=>⟨xs.length - (i+1),by omega,rfl,h,v⟩,λx z y=>?_⟩;obtain⟨e,y⟩:=y;subst e;exact B l i x σ _ c (y xs q) p
 . have e:i=xs.length:=by omega
   subst e;exact .inl ⟨⟨xs,q,Qd _⟩,A l σ H c p⟩
end
inductive RK where
 | Rule | Unlike | Sum | Rising | Seen | Count | Joined | NoSquare | Ring
 deriving DecidableEq
structure RCl (ι:Type) where
 A:ι->Addr
 ok:ι->Bool
section
variable{ι:Type}
def tFldK(c:RCl ι)(e:TE)(f:Str):TE:=λσ H Q=>e σ H λx d=>∃ a k g b v,x=.ref a/\c.ok k=true/\d a=some (.ins (c.A k) g b)/\b.lookup f=some v/\Q v d
def sFldK(c:RCl ι)(g h:TE)(f:Str):TS:=λD σ H=>h σ H λy i=>g σ i λx e=>∃ a k d b,x=.ref a/\c.ok k=true/\e a=some (.ins (c.A k) d b)/\b.length<1000/\
 D.nx σ (upd e a (.ins (c.A k) d (putF f y b)))
def aM(c:RCl ι)(b:ι->Bool)(m:Str)(sp:ι->Sp)(f:TE)(t:TA):TE:=λσ H Q=>f σ H λx e=>∃ a k g d,x=.ref a/\b k=true/\e a=some (.ins (c.A k) g d)/\d.lookup m=none/\
 t σ e λvs h=>sp k (x::vs) h Q E0
structure FldK(K:Frag)(c:RCl ι)(f:Str):Prop where
 ex:∀ k,c.ok k=true->Cls K (c.A k)/\NoAttr K (c.A k) f
structure MCal(P:Program)(w:World)(K:Frag)(mg:Str->Option Value)(base:Heap)(c:RCl ι)(okm:ι->Bool)(k:Nat)(m:Str)(ps:List Str)(sp:ι->Sp):Prop where
 ex:∀ i,okm i=true->∃(f:Addr) (fd:FuncData),Cls K (c.A i)/\Meth K (c.A i) m f/\FnOk P w K mg base CX0 k f fd ps (sp i)/\Binds K fd ps []
structure KCal(P:Program)(w:World)(K:Frag)(mg:Str->Option Value)(base:Heap)(k:Nat)(x:Str)(C:Addr)(ps:List Str)(sp:Sp):Prop where
 ex:∃(f:Addr) (fd:FuncData),Mk K C f/\FnOk P w K mg base CX0 k f fd ps sp/\mg x=↑C/\Binds K fd ps []
end
section
variable{ι:Type}{X:Cx}{c:RCl ι}{o e value:Expr}{es:List Expr}{f x m:Str}{p pos pos' apos:Pos}{ta tv:TE}{t:TA}{okm:ι->Bool}{k n:Nat}{ps:List Str}{sp:ι->Sp}{sp1:Sp}{C:Addr}
def bU(n:PE X e ta)(F:FldK X.K c f)(j:attributeBase e f X.env (eval e X.env)=eval e X.env:=by rfl):PE X (.Attribute e f pos) (tFldK c ta f):=by
 intro y s σ H Q I h;refine EU j (thn (n y s σ H _ I h) λu C ⟨x,m,i,t,a,k,A,z,v,w,p,d,l,q⟩=>?_);subst w;obtain rfl:u=Value.ref a:=t;obtain⟨r,g⟩:=F.ex k p;exact FG i d r g l λD B b o=>⟨v,m,b,o,q⟩
def km(E:PE X o ta)(g:PE X value tv)(F:FldK X.K c f)(z:swapsWith value (some (.Attribute o f pos')) pos.line X.env=pure false:=by rfl):PS X (.Assign [.Attribute o f pos'] value pos) (sFldK c ta tv f):=by
 intro b s σ H D I h;refine SB (thn (g b s σ H _ I h) λu A ⟨y,r,e,m,q⟩=>thn (E b A σ r _ e q) λB N ⟨x,M,d,i,a,k,J,G,j,C,n,l,w⟩=>?_) z;subst j;obtain rfl:B=Value.ref a:=i;obtain⟨t,p⟩:=F.ex k C;exact FH d n t p l m λL v=>⟨σ,_,v,w⟩
def dG {pl:Sem Bool} (M:MCal X.prog X.w X.K X.mg X.base c okm k m ps sp) (N:Room n X.A) (S:k<=n) (R:PE X o ta) (T:PA X (e::es) t)
  (d:starEach (e::es) X.env=(false,eval e X.env)::starEach es X.env:=by rfl) (b:(backTo pos (starEach es X.env)).any (·.1)=false:=by rfl)
  (B:eval (.Call (.Attribute o m apos) (e::es) [] pos) X.env=(do
   let ov ← eval o X.env
   standAt apos.atName
   let (f,first) ← holding [ov] (getMethod ov m pl)
   callWith pos f first (backTo pos (starEach (e::es) X.env)) (backToKw pos (keywordEach [] X.env))):=by rfl):
  PE X (.Call (.Attribute o m apos) (e::es) [] pos) (aM c okm m sp ta t):=by
 intro y s σ H Q I h;refine SH (pl:=pl) (thn (R y s σ H _ I h) λu P ⟨x,J,j,C,a,i,W,U,D,z,E,l,q⟩=>?_) B;subst D;obtain rfl:u=Value.ref a:=C;obtain⟨f,fd,L,v,F,G⟩:=M.ex i z;refine yh j E L v l ?_;refine R7 (first:=[.ref a]) (h₀:=X.base) I.ok.mod.kin v.kp (thn (T pos y P σ J _ j q) λp Z ⟨vs,Y,g,r,O⟩=>⟨g.kIn,?_⟩) d b;exact B7 (us:=.ref a::p) (vs:=.ref a::vs) F (N.mono S) G .nil B0 g (.cons rfl r) (by rw[TX];exact O)
def aR {pl:Sem Bool} (M:MCal X.prog X.w X.K X.mg X.base c okm k m ps sp) (B:Room n X.A) (t:k<=n) (r:PE X o ta)
  (p:eval (.Call (.Attribute o m apos) [] [] pos) X.env=(do
   let ov ← eval o X.env
   standAt apos.atName
   let (f,first) ← holding [ov] (getMethod ov m pl)
   callWith pos f first (backTo pos (starEach [] X.env)) (backToKw pos (keywordEach [] X.env))):=by rfl):
  PE X (.Call (.Attribute o m apos) [] [] pos) (aM c okm m sp ta tNil):=by
 intro C s σ H Q I h;refine SH (pl:=pl) (thn (r C s σ H _ I h) λu J ⟨x,L,b,y,a,i,E,D,z,g,e,l,q⟩=>?_) p;subst z;obtain rfl:u=Value.ref a:=y;obtain⟨f,G,v,d,F,j⟩:=M.ex i g;refine yh b e v d l ?_;exact PySem.W.callWith_K0 (first:=[.ref a]) b.kIn d.kp (B7 (us:=[.ref a]) (vs:=[.ref a]) F (B.mono t) j .nil B0 b (.cons rfl .nil) q)
def nR (M:KCal X.prog X.w X.K X.mg X.base k x C ps sp1) (i:Room n X.A) (h:k+1<=n) (c:Gl X x) (j:PA X (e::es) t)
  (b:(x==("__debug__":Str))=false:=by decide) (g:starEach (e::es) X.env=(false,eval e X.env)::starEach es X.env:=by rfl) (a:(backTo pos (starEach es X.env)).any (·.1)=false:=by rfl):
  PE X (.Call (.Name x p) (e::es) [] pos) (tMake C sp1 [] E0 t):=by
 obtain⟨f,m,mk,F,l,d⟩:=M.ex;exact JJ mk F (i.mono h) c l d .nil B0 j b g a
end
def oA(K:Frag):List V->Hp->VK->Prop
 | [.ref p],H,Q=>bnd (unM (H p)) λys=>∀ l,H l=none->Q (.ref l) (upd H l (.tup ys))
 | _,_,_=>False
def tInG(b:List Str)(a:Bool)(c:TE):TE:=λσ H Q=>c σ H λx d=>∃ z,x=.str z/\Q (.bl (if a then !decide (z∈b) else decide (z∈b))) d
structure GTup(K:Frag)(mg:Str->Option Value)(x:Str)(ws:List Str):Prop where
 ex:∃(p:Addr) (o:Obj) (PU:Array Value) (n:Nat),mg x=↑p/\K.lookup p=some o/\o.cls=.type "tuple"/\o.data=.seq PU n/\PU.size<=sizeLine/\Vals (ws.map V.str) PU.toList
theorem pA:∀ ns:List Str,(ns.map V.str).all flatV=true
 | []=>rfl
 | n::r=>by rw[QJ,SU,pA r];rfl
theorem sx(i:Str):∀ ns:List Str,inV (.str i) (ns.map V.str)=decide (i∈ns)
 | []=>by simp[inV]
 | n::r=>by
  have a:=sx i r;unfold inV at a ⊢;rw[QJ,Sc,a];show((n==i)||decide (i∈r))=decide (i∈n::r);rw[Qx,TZ,RV,P6,P6,Qs];exact⟨λh=>h.elim (λe=>.inl e.symm) .inr,λh=>h.elim (λe=>.inl e.symm) .inr⟩
section
variable{X:Cx}{a:Expr}{ta:TE}{pos p:Pos}{x:Str}{ws:List Str}
def wC:CallR X (.type "tuple") (oA X.K):=by
 intro b s σ H d a Q I r h;unfold oA at h
 split at h
 . obtain⟨c,e,q⟩:=bu h;exact Bn b s σ H _ a Q I r ⟨_,c,rfl,.inl ⟨Qh (jB e),q⟩⟩
 . exact h.elim
def Lh{ws:List Str}{q:Addr}(b:∃(o:Obj) (PU:Array Value) (n:Nat),X.K.lookup q=some o/\o.cls=.type "tuple"/\o.data=.seq PU n/\PU.size<=sizeLine/\Vals (ws.map V.str) PU.toList):
  OpR X (compareOp .In) (λx y H Q=>∃ z,x=.str z/\y=.ref q/\Q (.bl (decide (z∈ws))) H):=by
 intro c s σ H x y v u Q I d a h;obtain⟨z,rfl,rfl,h⟩:=h;refine ud c s σ H _ _ v u Q I d a ⟨q,ws.map V.str,rfl,.inr (.inr b),rfl,pA ws,?_⟩;rw[sx];exact h
def JX{ws:List Str}{q:Addr}(b:∃(o:Obj) (PU:Array Value) (n:Nat),X.K.lookup q=some o/\o.cls=.type "tuple"/\o.data=.seq PU n/\PU.size<=sizeLine/\Vals (ws.map V.str) PU.toList):
  OpR X (compareOp .NotIn) (λx y H Q=>∃ z,x=.str z/\y=.ref q/\Q (.bl (!decide (z∈ws))) H):=by
 intro c s σ H x y v u Q I d a h;obtain⟨z,rfl,rfl,h⟩:=h;refine ue c s σ H _ _ v u Q I d a ⟨q,ws.map V.str,rfl,.inr (.inr b),rfl,pA ws,?_⟩;rw[sx];exact h
end
section
variable{ι:Type}{c:RCl ι}{ta tv:TE}{t:TA}{f m:Str}{σ:St}{H:Hp}{Q:VK}{D:Ends}{okm:ι->Bool}{sp:ι->Sp}{sp1:Sp}{C:Addr}{K:Frag}
def fK:tMake C sp1 [] E0 t σ H Q=t σ H λvs a=>∀ x dx,a x=none->a dx=none->dx≠x->sp1 (.ref x::(vs++[])) (upd (upd a dx (.own x)) x (.ins C dx [])) (λv b=>v=.non/\Q (.ref x) b) E0:=rfl
def iu{b:List Str}{a:Bool}{c:TE}:tInG b a c σ H Q=c σ H λx d=>∃ z,x=.str z/\Q (.bl (if a then !decide (z∈b) else decide (z∈b))) d:=rfl
def JY{p:Addr}{xs:List V}(a:H p=↥xs)(h:∀ l,H l=none->Q (.ref l) (upd H l (.tup xs))):oA K [.ref p] H Q:=by
 unfold oA;dsimp only;rw[a];exact h
end
def cntD(ns:∅):Nat:=(firstMet (λi=>ns.getD i 0) ns.length).length
def vU(c:TE):TE:=λσ H Q=>c σ H λx b=>∃ p a,x=.ref p/\b p=↥(a.map V.int)/\a.length<=900/\Q (.int (cntD a:Nat)) b
def cM{a:TE}{σ:St}{H:Hp}{Q:VK}:vU a σ H Q=a σ H λx b=>∃ p ns,x=.ref p/\b p=↥(ns.map V.int)/\ns.length<=900/\Q (.int (cntD ns:Nat)) b:=rfl
def JZ:bootBuiltins "set"=some (.type "set"):=by decide+kernel
def AX {X:Cx} {e:Expr} {A:TE} {p f pos a:Pos} (L:X.calm=true) (w:Gl X "len") (m:Gl X "set") (P:X.mg "len"=none) (T:X.mg "set"=none) (W:PE X e A)
  (c:starEach [.Call (.Name "set" f) [e] [] a] X.env=[(false,eval (.Call (.Name "set" f) [e] [] a) X.env)]:=by rfl) (d:starEach [e] X.env=[(false,eval e X.env)]:=by rfl):
  PE X (.Call (.Name "len" p) [.Call (.Name "set" f) [e] [] a] [] pos) (vU A):=by
 intro D s σ H Q I h;refine Rm (jz I w P aI ?_ #[1] #[1]);refine SM ?_ c rfl;rw[c];show wpAny _ _ (spliced [(false,eval (.Call (.Name "set" f) [e] [] a) X.env)]) _ _ s;refine So ?_;refine Rm (jz I m T JZ ?_ #[1] #[1]);refine Q9 ?_ d rfl;rw[d];show wpAny _ _ (spliced [(false,eval e X.env)]) _ _ s;refine So (thn (W D s σ H _ I h) λu E ⟨x,C,y,O,U⟩=>?_);refine Sv ?_;obtain⟨l,j,rfl,r,B,q⟩:=U;cases O;obtain⟨v,n,z,S,hz⟩:=y.lst r;have J:E.heap.IsList l v.toArray:=⟨_,S,rfl,n,rfl⟩;have G:IntsAre v j:=yi z;have g:=z.length;rw[P0]at g;refine call_set_list (ns:=j) (I.ok.hd L) J (by simpa using G) (by rw[Ql,← g];exact Rn (SO B) #[1]) λR N M k=>?_;refine Sv ?_;obtain⟨o,es,Z,t,h1,h2,h3,h4,h5,h6,h7,h8⟩:=M;have Y:(firstMet (λi=>j.getD i 0) v.toArray.size).length<=900:=Qa (firstMet_length_le _ _) (by rw[Ql,← g];exact B);refine call_len_set h1 h2 h3 h7 #[0] ?_;have F:Inv X D σ C {E with heap:=R,toks:=N}:=y.kept λb K e=>k b K (Qo e) e;refine⟨.int _,C,F.tok _,⟨_,rfl⟩,?_⟩;rw[h8,Ql,← g];exact q
def kH:V->List V->Hp->VK->Prop
 | .str sep,[.ref p],H,Q=>bnd (unS (H p)) λys=>∃ ts:List Str,ys=ts.map V.str/\JoinOk sep ts=true/\Q (.str (Txt.join sep ts)) H
 | _,_,_,_=>False
def uv{X:Cx}:MtR X "str.join" kH:=by
 intro D s σ H x vs v B Q I w r h;unfold kH at h
 split at h
 . rename_i i p
   obtain⟨C,e,A,rfl,c,q⟩:=bu h;rcases qS (K:=X.K) e with f | f
   . obtain⟨t,rfl⟩:=w;obtain⟨u,rfl,j⟩:=eP r;cases j;obtain⟨y,b,d,z⟩:=I.list f;obtain⟨l,rfl,g⟩:=z6 b;exact SC.join d.isList g c λm k=>⟨.str _,H,I.tok k,⟨m,rfl⟩,q⟩
   . obtain⟨t,rfl⟩:=w;obtain⟨u,rfl,j⟩:=eP r;cases j;obtain⟨y,b,d,z⟩:=I.tuple f;obtain⟨l,rfl,g⟩:=z6 b;subst g;obtain⟨o,h1,h2,n,h3⟩:=d;have a:=c;unfold JoinOk at a;rw[Tt]at a;exact RW F.slot_str_join (SN _ _ _) F.entry_str_join (F.args_str_join_2 _ _) (meets_str_join_tuple i t p l a) ⟨⟨o,n,h1,h2,h3⟩,post_join l ⟨joinFit_length a,λm k=>⟨.str _,H,I.tok k,⟨m,rfl⟩,q⟩⟩⟩
 . exact h.elim
section
variable{X:Cx}{e:Expr}{te:TE}{p2 p3 p4 pos:Pos}{z0:Nat}
def yC:V->List V->Hp->VK->Prop
 | .ref l,[.int i],H,Q=>bnd (unM (H l)) λxs=>0<=i/\i<xs.length/\bnd (xs[i.toNat]?) λy=>Q y (upd H l (.lst (xs.eraseIdx i.toNat)))
 | _,_,_,_=>False
def seqIx{i:Int}{n:Nat}(h0:0<=i)(h1:i<n):seqIndex? i n=some i.toNat:=by
 obtain⟨k,rfl⟩:=Rj h0;have a:k<n:=by omega
 unfold seqIndex?;have b:¬ ((k:Int)<0):=by omega
 simp[a,b]
def Hv:MtR X "list.pop" yC:=by
 intro g s σ H x vs v f Q I d b h;unfold yC at h
 split at h
 . obtain⟨a,e,h0,h1,h⟩:=bu h;obtain⟨y,c,q⟩:=bu h;have j:a.length<=sizeLine:=(I.lstM (jB e)).1;have i:(sizeLine:Int)<2^63:=by decide
   exact IH g s σ H _ _ v f Q I d b ⟨_,a,_,_,y,rfl,rfl,jB e,by omega,by omega,seqIx h0 h1,c,q⟩
 . exact h.elim
def tRevL(te:TE):TE:=λσ H Q=>te σ H λx a=>∃ p b,x=.ref p/\a p=↥b/\∀ l,a l=none->Q (.ref l) (upd a l (.lst b.reverse))
end
section
variable{σ:St}{H:Hp}{Q:VK}{te:TE}
def iw{i j:Int}{H:Hp}{Q:VK}:kMax [.int i,.int j] H Q=Q (.int (if j>i then j else i)) H:=rfl
def fM:tRevL te σ H Q=te σ H λx a=>∃ p xs,x=.ref p/\a p=↥xs/\∀ l,a l=none->Q (.ref l) (upd a l (.lst xs.reverse)):=rfl
def J0{l:Addr}{i:Int}{xs:List V}{y:V}(c:H l=↥xs)(h0:0<=i)(h1:i<xs.length)(b:xs[i.toNat]? =some y)(q:Q y (upd H l (.lst (xs.eraseIdx i.toNat)))):yC (.ref l) [.int i] H Q:=by
 show bnd (unM (H l)) _;rw[c];exact bt (a:=xs) rfl ⟨h0,h1,bt b q⟩
end
def FS:typeLookup (.type "str") (Str.ofString "__int__")=pure none:=by rw[T3,SI];kernel_rfl
def CD:typeLookup (.type "str") (Str.ofString "__index__")=pure none:=by rw[T3,SI];kernel_rfl
def CF:typeLookup (.type "str") (Str.ofString "__trunc__")=pure none:=by rw[T3,SI];kernel_rfl
def numC(n:Nat):List Nat:=if n<10 then [48+n] else [48+n/10,48+n%10]
variable{n:Nat}
def Hw(h:n<100):((tx (numC n)).cps.all λx=>decide (x<128))=true:=by
 have t:((List.range 100).all λn=>(tx (numC n)).cps.all λx=>decide (x<128))=true:=by decide+kernel
 exact Qj.mp t n (Qf.mpr h)
def Hx{α:Type}{M:Model}{A:Around}{E:Value->Shared->Prop}{s:Shared}{Q:α->Shared->Prop}{m m':Sem α}(e:m=m')(h:wpAny M A m' Q E s):wpAny M A m Q E s:=e ▸ h
def gis(n:Nat)(b:n<100)(u:Tok):Gives (Builtin.«int.__new__» ⟨[.type "int",.str (tx (numC n)) u],[]⟩) (.int n):=
 .of_wp λM A E s Q h=>by
  obtain⟨l,g,d,k,o⟩:=s;have i:=PySem.F.conv_sub_int;have f:=PySem.F.madeHere_int;have e:=FS;have j:=CD;have c:=CF
  iterate 44 (any_goals (first | assumption | wp_step))
  refine Qq (wpAny_of_eq (a:=some (tx (numC n))) rfl ?_);refine wpAny_of_eq (a:=some (numC n)) ?e1 ?_
  case e1=>
   show(pure (some (if ((tx (numC n)).cps.all λx=>decide (x<128))=true then(tx (numC n)).cps.toList else _)):Sem _)=_;rw[Qt (Hw b),yA]
  refine Hx (m':=mkInt (n:Int)) ?e2 ?_
  case e2=>
   clear h i f e j c
   match n,b with | 0,_=>kernel_rfl | 1,_=>kernel_rfl | 2,_=>kernel_rfl | 3,_=>kernel_rfl | 4,_=>kernel_rfl | 5,_=>kernel_rfl | 6,_=>kernel_rfl | 7,_=>kernel_rfl | 8,_=>kernel_rfl | 9,_=>kernel_rfl | 10,_=>kernel_rfl | 11,_=>kernel_rfl | 12,_=>kernel_rfl | 13,_=>kernel_rfl | 14,_=>kernel_rfl | 15,_=>kernel_rfl | 16,_=>kernel_rfl | 17,_=>kernel_rfl | 18,_=>kernel_rfl | 19,_=>kernel_rfl | 20,_=>kernel_rfl | 21,_=>kernel_rfl | 22,_=>kernel_rfl | 23,_=>kernel_rfl | 24,_=>kernel_rfl | 25,_=>kernel_rfl | 26,_=>kernel_rfl | 27,_=>kernel_rfl | 28,_=>kernel_rfl | 29,_=>kernel_rfl | 30,_=>kernel_rfl | 31,_=>kernel_rfl | 32,_=>kernel_rfl | 33,_=>kernel_rfl | 34,_=>kernel_rfl | 35,_=>kernel_rfl | 36,_=>kernel_rfl | 37,_=>kernel_rfl | 38,_=>kernel_rfl | 39,_=>kernel_rfl | 40,_=>kernel_rfl | 41,_=>kernel_rfl | 42,_=>kernel_rfl | 43,_=>kernel_rfl | 44,_=>kernel_rfl | 45,_=>kernel_rfl | 46,_=>kernel_rfl | 47,_=>kernel_rfl | 48,_=>kernel_rfl | 49,_=>kernel_rfl | 50,_=>kernel_rfl | 51,_=>kernel_rfl | 52,_=>kernel_rfl | 53,_=>kernel_rfl | 54,_=>kernel_rfl | 55,_=>kernel_rfl | 56,_=>kernel_rfl | 57,_=>kernel_rfl | 58,_=>kernel_rfl | 59,_=>kernel_rfl | 60,_=>kernel_rfl | 61,_=>kernel_rfl | 62,_=>kernel_rfl | 63,_=>kernel_rfl | 64,_=>kernel_rfl | 65,_=>kernel_rfl | 66,_=>kernel_rfl | 67,_=>kernel_rfl | 68,_=>kernel_rfl | 69,_=>kernel_rfl | 70,_=>kernel_rfl | 71,_=>kernel_rfl | 72,_=>kernel_rfl | 73,_=>kernel_rfl | 74,_=>kernel_rfl | 75,_=>kernel_rfl | 76,_=>kernel_rfl | 77,_=>kernel_rfl | 78,_=>kernel_rfl | 79,_=>kernel_rfl | 80,_=>kernel_rfl | 81,_=>kernel_rfl | 82,_=>kernel_rfl | 83,_=>kernel_rfl | 84,_=>kernel_rfl | 85,_=>kernel_rfl | 86,_=>kernel_rfl | 87,_=>kernel_rfl | 88,_=>kernel_rfl | 89,_=>kernel_rfl | 90,_=>kernel_rfl | 91,_=>kernel_rfl | 92,_=>kernel_rfl | 93,_=>kernel_rfl | 94,_=>kernel_rfl | 95,_=>kernel_rfl | 96,_=>kernel_rfl | 97,_=>kernel_rfl | 98,_=>kernel_rfl | 99,_=>kernel_rfl | (m+100),hm=>exact absurd hm #[0]
  repeat (any_goals (first | assumption | wp_step))
  all_goals first | exact⟨_,rfl,h⟩ | skip
def sy:List V->Hp->VK->Prop
 | [.int i],H,Q=>Q (.int i) H
 | [.bl k],H,Q=>Q (.int (if k then 1 else 0)) H
 | [.str z],H,Q=>∃ n:Nat,n<100/\z=tx (numC n)/\Q (.int n) H
 | _,_,_=>False
def yD{X:Cx}:CallR X (.type "int") sy:=by
 intro b s σ H e a Q I r h;unfold sy at h
 split at h
 . exact AL b s σ H _ a Q I r (.inl ⟨_,rfl,h⟩)
 . exact AL b s σ H _ a Q I r (.inr ⟨_,rfl,h⟩)
 . obtain⟨n,c,rfl,q⟩:=h;obtain⟨u,rfl,d⟩:=eP r;obtain⟨t,rfl⟩:=d;exact call_int_1 (gis n c t).meets (show(Made.int (n:Int)).post _ s from⟨rfl,⟨.int n,H,I.tok _,⟨_,rfl⟩,q⟩⟩)
 . exact h.elim
def dz{k:Bool}{H:Hp}{Q:VK}:sy [.bl k] H Q=Q (.int (if k then 1 else 0)) H:=rfl
def dA{i:Int}{H:Hp}{Q:VK}:sy [.int i] H Q=Q (.int i) H:=rfl
def vV(h:n<100):Str.ofString (toString (n:Int))=tx (numC n):=by
 have t:((List.range 100).all λ(n:Nat)=>decide (Str.ofString (toString (n:Int))=tx (numC n)))=true:=by decide+kernel
 simpa using Qj.mp t n (Qf.mpr h)
def xq(h:n<100):32∉numC n:=by
 have t:((List.range 100).all λ(n:Nat)=>decide (32∉numC n))=true:=by decide+kernel
 simpa using Qj.mp t n (Qf.mpr h)
def Li(h:n<100):numC n≠[]:=by unfold numC;split <;> simp
def gY:(numC n).length<=2:=by unfold numC;split <;> simp
def IW(h:n<100):((numC n).head? =some 48->n=0)/\numC 0=[48]:=by
 have t:((List.range 100).all λ(n:Nat)=>decide ((numC n).head? =some 48->n=0))=true:=by decide+kernel
 exact⟨Qw (Qj.mp t n (Qf.mpr h)),rfl⟩
def E8(h:n<100):∀ c∈numC n,48<=c/\c<=57:=by
 have t:((List.range 100).all λ(n:Nat)=>(numC n).all λc=>decide (48<=c/\c<=57))=true:=by decide+kernel
 intro c a
 simpa using Qj.mp (Qj.mp t n (Qf.mpr h)) c a
local macro_rules|`(tactic|walk_at "w")=>wk9 ws1
local macro_rules|`(tactic|symm)=>`(tactic|walk_at "w")
def dH(K:Frag):Sp:=#[3,∃ a h w g,vs=[.ref a]/\IsFl H a h w g/\1<=h/\h<=6/\Q (.int (h*w)) H]
def m6(K:Frag):TS:=#[":jbUbi0df#0 bi0df#1 "]
variable{K:Frag}{vs:List V}{H:Hp}{Q:VK}{E:XK}
def Bq(h:dH K vs H Q E):m6 K (eD9 Q) (start ["floor"] vs) H:=by
 obtain⟨a,h,w,g,rfl,b,h0,h1,q⟩:=h;exists m6;rw[jP b];refine bt (a:=V.int h) rfl ?_;symm;rw[jP b];refine bt (a:=V.int w) rfl ?_;exists⟨pw h0 h1,q⟩
def cornB(h w c:Int):Bool:=decide (c/w<h-1)&&decide (c%w<w-1)
def oB(K:Frag):Sp:=#[3,∃ a h w g c,vs=[.ref a,.int c]/\IsFl H a h w g/\0<w/\w<100/\∀ b,Same H b->Q (.bl (cornB h w c)) b]
def oE(K:Frag):TS:=#[":gl,'vca0a1eh#2 jGb<bi2df#0 bIbi0df#0 df#1 b<bi2df#1 bIbi0df#1 df#1 "]
theorem CG(h:oB K vs H Q E):oE K (eD9 Q) (start ["floor","cell","spot"] vs) H:=by
 obtain⟨a,h,w,g,c,rfl,i,j,m,k⟩:=h;exists oE;refine⟨a,h,w,g,c,rfl,i,j,m,λp l=>?_⟩;have e:Same H (upd H p (.tup [.int (c/w),.int (c%w)])):=(P2 H).laid l;have k1:=k _ e;have d:=e _ _ i;have b:(upd H p (.tup [.int (c/w),.int (c%w)])) p=some (.tup [.int (c/w),.int (c%w)]):=ai;generalize upd H p (.tup [.int (c/w),.int (c%w)])=H1 at*;symm;rw[jP b];refine bt (a:=V.int (c/w)) rfl ?_;symm;rw[jP d];refine bt (a:=V.int h) rfl ?_;symm;unfold cornB at k1
 cases f:decide (c/w<h-1) with
 | false=>
  rw[f,P9]at k1;exact iteF k1
 | true=>
  rw[f,Qc]at k1;refine iteT ?_;rw[jP b];refine bt (a:=V.int (c%w)) rfl ?_;symm;rw[jP d];refine bt (a:=V.int w) rfl ?_;symm;exact k1
def sqL(w c:Int):∅:=[c,c+1,c+w,c+w+1]
def oF(K:Frag):Sp:=#[3,∃ a h w g c,vs=[.ref a,.int c]/\IsFl H a h w g/\∀ p,H p=none->Q (.ref p) (upd H p (.lst ((sqL w c).map V.int)))]
def oG(K:Frag):TS:=#[":glbv1bi0df#1 h#2 jua1abv1df#1 a2abv2df#1 e"]
def CH(h:oF K vs H Q E):oG K (eD9 Q) (start ["floor","corner","below"] vs) H:=by
 obtain⟨a,h,w,g,c,rfl,b,k⟩:=h;exists oG;rw[jP b];refine bt (a:=V.int w) rfl ?_;exists⟨lnR rfl,k⟩
def squL(h w:Int):List ∅:=((List.range (h*w).toNat).filter λ(i:Nat)=>cornB h w i).map λ(i:Nat)=>sqL w i
def nS(K:Frag):Sp:=#[3,∃ a h w g,vs=[.ref a]/\IsFl H a h w g/\FlOk h w g/\
 ∀ l b c,Same H c->H l=none->IsLL c l b (squL h w)->b.Nodup->l∉b->(∀ a∈b,H a=none)->Q (.ref l) c]
def sB(K:Frag):TS:=#[":jz&--0 *a,~uca0eeh#1 w,'Yca2a1e,'Zca2a1e"]
def NewAt.ll{d:Hp}{l:Addr}{b:List Addr}{c:List ∅}(x:NewAt d H l b (c.map λxs=>.lst (xs.map V.int)))(e:H l=↥(b.map V.ref)):IsLL H l b c:=
 ⟨e,by rw[x.len,P0],λj a xs h1 h2=>x.at_ j a _ h1 (by rw[P5,h2];rfl)⟩
def FT(h:nS K vs H Q E):sB K (eD9 Q) (start ["floor"] vs) H:=by
 obtain⟨a,h,w,g,rfl,f,F,k⟩:=h;obtain⟨h0,h1,C,y,o,B,A⟩:=F;have n:0<=h*w:=Rw #[0] #[0];exists sB;refine⟨a,h,w,g,rfl,f,h0,h1,?_⟩;exists⟨h*w,rfl,by omega,by omega,?_⟩;refine Em (λ(i:Nat)=>cornB h w i) (λ(i:Nat)=>.lst ((sqL w i).map V.int)) #[0] ?_ ?_ ?_
 . intro i b R q e k1;show tB _ [none,⇑(0+(i:Int)),↑a] b R;symm;rw[Rs];exact⟨a,h,w,g,_,rfl,e _ _ f,by omega,by omega,λc d=>⟨_,rfl,k1 c d⟩⟩
 . intro i b r q z e k1;show tCall _ _ _ _ [none,⇑(0+(i:Int)),↑a] b r;symm;rw[Rs];exact⟨a,h,w,g,_,rfl,e _ _ f,λp m=>k1 p _ ((P2 b).laid m) m ai⟩
 . intro l j c t d u x
   have s:NewAt H c l j ((squL h w).map λv=>.lst (v.map V.int)):=by
    unfold squL;rw[QO];exact x
   exact k l j c d t (s.ll u) x.nd x.nl x.fr
def ws4:String:="ax fK iu cM fM dz dA iw ip fJ iq if_true if_false Bool.false_eq_true decide_true decide_false db dc gG bY bK c9 d7 da bX d4 d6 bW gE bZ b4 b6 b7 b8 b9 b5 d8 d9 eh dZ gF Bool.not_true Bool.not_false ax "++ws1
local macro_rules|`(tactic|walk_at "w")=>wk9 ws4
def nmC:RK->List Nat
 | .Rule=>[]
 | .Unlike=>[117,110,108,105,107,101]
 | .Sum=>[115,117,109]
 | .Rising=>[114,105,115,105,110,103]
 | .Seen=>[115,101,101,110]
 | .Count=>[99,111,117,110,116]
 | .Joined=>[106,111,105,110,101,100]
 | .NoSquare=>[110,111,115,113,117,97,114,101]
 | .Ring=>[114,105,110,103]
def jb:List Str:=[tx [115,117,109],tx [115,101,101,110],tx [99,111,117,110,116]]
def iH:List Str:=[tx [99,111,117,110,116],tx [106,111,105,110,101,100],tx [110,111,115,113,117,97,114,101],tx [114,105,110,103]]
def iy:List Str:=[tx [106,111,105,110,101,100],tx [110,111,115,113,117,97,114,101],tx [114,105,110,103]]
def rFs(p W C:Addr)(n m:Int):List (Str × V):=[("floor",.ref p),("words",.ref W),("cells",.ref C),("amount",.int n),("mark",.int m)]
abbrev Uk:=RCl RK
structure IsRule(H:Hp)(c:Uk)(k:RK)(r p:Addr)(ws:List (List Nat))(cs:∅)(n m:Int):Prop where
 ok:c.ok k=true
 ex:∃ dx W C,H r=some (.ins (c.A k) dx (rFs p W C n m))/\H W=some (.tup ((ws.map tx).map V.str))/\H C=some (.tup (cs.map V.int))
variable{H:Hp}{c:Uk}{p:Addr}{cs:∅}
def IsRule.same{a:Hp}{k:RK}{r:Addr}{b:List (List Nat)}{n m:Int}(x:IsRule H c k r p b cs n m)(s:Same H a):IsRule a c k r p b cs n m:=by
 obtain⟨d,W,C,h1,h2,h3⟩:=x.ex;exact⟨x.ok,d,W,C,s _ _ h1,s _ _ h2,s _ _ h3⟩
section
variable{ι:Type}{c:RCl ι}{σ:St}{H:Hp}{Q:VK}{i:Nat}{r dx:Addr}{k:ι}{fs:List (Str × V)}{f m:Str}{v:V}{okm:ι->Bool}{sp:ι->Sp}{t:TA}{D:Ends}{tv:TE}{y:V}{H1:Hp}
def fldE(d:σ[i]? =some ↑r)(b:c.ok k=true)(a:H r=some (.ins (c.A k) dx fs))(e:fs.lookup f=some v)(q:Q v H):tFldK c (tVar i) f σ H Q:=rY d ⟨r,k,dx,fs,v,rfl,b,a,e,q⟩
def methE(f:σ[i]? =some ↑r)(d:okm k=true)(e:H r=some (.ins (c.A k) dx fs))(b:fs.lookup m=none)(q:t σ H λvs a=>sp k (.ref r::vs) a Q E0):aM c okm m sp (tVar i) t σ H Q:=rY f ⟨r,k,dx,fs,rfl,d,e,b,q⟩
def sfldV{j:Nat}{x:V}(g:σ[j]? =some (some x))(e:σ[i]? =some ↑r)(b:c.ok k=true)(d:H r=some (.ins (c.A k) dx fs))(a:fs.length<1000)(q:D.nx σ (upd H r (.ins (c.A k) dx (putF f x fs)))):sFldK c (tVar i) (tVar j) f D σ H:=
 rY g (rY e ⟨r,k,dx,fs,rfl,b,d,a,q⟩)
def sfldT {K:Frag} {j:Nat} {p:Addr} {xs:List V} (m:σ[j]? =some ↑p) (d:H p=↥xs) (h:σ[i]? =some ↑r) (g:c.ok k=true) (b:H r=some (.ins (c.A k) dx fs)) (e:fs.length<1000)
  (q:∀ l,H l=none->D.nx σ (upd (upd H l (.tup xs)) r (.ins (c.A k) dx (putF f (.ref l) fs)))):sFldK c (tVar i) (tCB (oA K) (tCons (tVar j) tNil)) f D σ H:=by
 unfold sFldK;exists rY m (JY d λl a=>?_);exact rY h ⟨r,k,dx,fs,rfl,g,by rw[ap (aD b a)];exact b,e,q l a⟩
end
variable{Q:VK}
def J1{xs:List V}(a:H p=some (.tup xs))(h:∀ l,H l=none->Q (.ref l) (upd H l (.lst xs))):kList [.ref p] H Q:=by
 unfold kList;dsimp only;rw[a];exact h
def E9{a:Str}{ts:List Str}(c:H p=↥(ts.map V.str))(b:JoinOk a ts=true)(h:Q (.str (Txt.join a ts)) H):kH (.str a) [.ref p] H Q:=by
 unfold kH;dsimp only;rw[c];exact⟨ts,rfl,b,h⟩
variable{K:Frag}{fin:Addr->Hp->Prop}
theorem AY {a:Addr} {k:Nat} {s:TT} {t:TE} {d:St} {c:Hp} {xs:∅} (b:Int->Bool) (f:Int->Int) (J:xs.length<=900) (B:c a=some (.tup (xs.map V.int)))
  (w:∀ x H R,x∈xs->Same c H->(∀ j,Same H j->R (b x) j)->s (d.set k ⇑x) H R)
  (G:∀ x H Q,x∈xs->b x=true->Same c H->(∀ j,Same H j->Q (.int (f x)) j)->t (d.set k ⇑x) H Q)
  (E:∀ l H,c l=none->Same c H->H l=↥(((xs.filter b).map f).map V.int)->fin l H):CompR (Itt K a) (gName k) s t fin d c:=by
 refine IV (xs:=xs.map V.int) (λl i σ H=>(σ=d\/∃ r,σ=d.set k r)/\Same c H/\H l=↥((((xs.take i).filter b).map f).map V.int)) (λl h=>⟨.inl rfl,(P2 c).laid h,by rw[ai];rfl⟩) (λl i σ H _ _ p=>Ud (p.2.1 _ _ B)) ?_ (λl σ H h p=>E l H h p.2.1 (by have:=p.2.2;rw[P0,R1]at this;exact this));rintro l i x σ H h A ⟨D,n,C⟩;obtain⟨z,o,rfl⟩:=bj A;have I:i<xs.length:=(P8.mp o).1;have u:xs.take (i+1)=xs.take i++[z]:=by rw[Sf,o];rfl
 rw[aP]
 have e:σ.set k ⇑z=d.set k ⇑z:=by
  rcases D with rfl | ⟨r,rfl⟩
  . rfl
  . exact RQ ..
 rw[e];refine w z H _ (Qi o) n λF m=>?_;have g:=m _ _ C
 have y:((((xs.take i).filter b).map f).map V.int).length<sizeLine:=by
  rw[P0,P0];refine aL (Qa (Qk b _) ?_);rw[Rt];omega
 cases q:b z with
 | false=>
  rw[Qp P7];refine⟨.inr ⟨_,rfl⟩,n.trans m,?_⟩;rw[u,QP,QW,q]
  simpa using g
 | true=>
  rw[Qt rfl];refine G z F _ (Qi o) q (n.trans m) λL v=>⟨_,v _ _ g,y,.inr ⟨_,rfl⟩,((n.trans m).trans v).own h,?_⟩;rw[ai,u,QP,QW,q];simp
def Ac(K:Frag)(c:Uk)(k:RK):Sp:=#[3,∃ r p w a cs n m,vs=[.ref r]/\IsRule H c k r p (w::a) cs n m/\Q (.str (tx w)) H]
def jQ(K:Frag)(c:Uk)(k:RK):Sp:=#[3,∃ r p a cs n m,vs=[.ref r]/\IsRule H c k r p a cs n m/\∀ l,H l=none->Q (.ref l) (upd H l (.lst (cs.map V.int)))]
def kn(K:Frag)(c:Uk)(k:RK):Sp:=#[3,∃ r p a cs n m,vs=[.ref r]/\IsRule H c k r p a cs n m/\Q (.int n) H]
def l6(K:Frag)(c:Uk)(k:RK):Sp:=#[3,∃ r p a cs n m,vs=[.ref r]/\IsRule H c k r p a cs n m/\Q (.int m) H]
def sgAt(xs cs:∅):∅:=cs.map λc=>xs.getD c.toNat 0
def mkAt(xs cs:∅)(m:Int):∅:=cs.filter λc=>decide (xs.getD c.toNat 0=m)
def aV(cs:∅)(n:Nat):Prop:=cs.length<=63/\∀ c∈cs,0<=c/\c<n
def gZ(K:Frag)(c:Uk)(k:RK):Sp:=#[3,∃ r p f d cs b n m,vs=[.ref r,.ref f]/\IsRule H c k r p d cs n m/\H f=↥(b.map V.int)/\aV cs b.length/\
 ∀ l a,Same H a->H l=none->a l=↥((sgAt b cs).map V.int)->Q (.ref l) a]
def ko(K:Frag)(c:Uk)(k:RK):Sp:=#[3,∃ r p f d cs b n m,vs=[.ref r,.ref f]/\IsRule H c k r p d cs n m/\H f=↥(b.map V.int)/\aV cs b.length/\
 ∀ l a,Same H a->H l=none->a l=↥((mkAt b cs m).map V.int)->Q (.ref l) a]
def risB:∅->Bool
 | x::y::r=>decide (x<y)&&risB (y::r)
 | _=>true
def seenN(xs:∅):Int × Int:=xs.foldl (λa x=>if a.1<x then(x,a.2+1) else a) (0,0)
noncomputable def joinB (h w:Int) (ms:∅):Bool:=@decide (ms=[]\/(ms.Pairwise (· < ·)/\∀ x∈ms,RC h w ms (ms.headD 0) x)) (Classical.propDecidable _)
def twoB(h w:Int)(ms:∅)(c:Int):Bool:=decide (((besL h w c).filter λy=>decide (y∈ms)).length=2)
noncomputable def hoB (k:RK) (h w:Int) (cs:∅) (n m:Int) (xs:∅):Bool:=match k with
 | .Unlike=>decide (cntD (sgAt xs cs)=(sgAt xs cs).length)
 | .Sum=>decide ((sgAt xs cs).sum=n)
 | .Rising=>risB (sgAt xs cs)
 | .Seen=>decide ((seenN (sgAt xs cs)).2=n)
 | .Count=>decide (((mkAt xs cs m).length:Int)=n)
 | .NoSquare=>!((squL h w).any λa=>a.all λc=>decide (c∈mkAt xs cs m))
 | .Joined=>joinB h w (mkAt xs cs m)
 | .Ring=>joinB h w (mkAt xs cs m)&&(mkAt xs cs m).all (twoB h w (mkAt xs cs m))
 | _=>true
def fW(K:Frag)(c:Uk)(k:RK):Sp:=#[3,∃ r p f d cs a n m h w g,vs=[.ref r,.ref f]/\IsRule H c k r p d cs n m/\IsFl H p h w g/\FlOk h w g/\H f=↥(a.map V.int)/\aV cs a.length/\(∀ x∈a,0<=x/\x<=1000)/\
 ∀ b,Same H b->Q (.bl (hoB k h w cs n m a)) b]
def kI(K:Frag)(c:Uk)(k:RK):Sp:=#[3,∃ r p C d cs a n m h w g,vs=[.ref r,.ref C]/\IsRule H c k r p d cs n m/\IsFl H p h w g/\FlOk h w g/\H C=↥(a.map V.int)/\a.length<=63/\
 ∀ b,Same H b->Q (.bl (joinB h w a)) b]
def jd(K:Frag)(c:Uk)(k:RK):Sp:=#[3,∃ r p C d cs a n m h w g z,vs=[.ref r,.ref C,.int z]/\IsRule H c k r p d cs n m/\IsFl H p h w g/\FlOk h w g/\H C=↥(a.map V.int)/\a.length<=63/\
 ∀ b,Same H b->Q (.bl (twoB h w a z)) b]
def aW(K:Frag)(c:Uk):Sp:=#[3,∃ k x e p W C d cs n m,vs=[.ref x,.ref p,.ref W,.ref C,.int n,.int m]/\c.ok k=true/\H x=some (.ins (c.A k) e [])/\W≠x/\C≠x/\
 H W=↥((d.map tx).map V.str)/\H C=↥(cs.map V.int)/\∀ a,(∀ b o,b≠x->H b=some o->a b=some o)->IsRule a c k x p d cs n m->Q .non a]
def jR(K:Frag)(c:Uk):TS:=#[":g~ek01~fg~ek0n'wca2e'xg~ek0n'wca3e~Ng~ek04~v~ek05'b"]
variable{vs:List V}{E:XK}
def xt(h:aW K c vs H Q E):jR K c (eD9 Q) (start ["self","floor","words","cells","amount","mark"] vs) H:=by
 obtain⟨k,x,w,p,W,C,B,cs,n,m,rfl,d,A,y,u,z,t,q⟩:=h;exists jR;refine sfldV (k:=k) (j:=1) rfl rfl d A #[1] ?_;exists sfldT (k:=k) (j:=2) (p:=W) rfl (by rw[ap y];exact z) rfl d ai (by show(1:Nat)<1000;decide) λr h1=>?_;have a:r≠x:=λe=>by rw[e,ai]at h1;cases h1
 have s:H r=none:=by rw[ap a]at h1;exact h1
 exists sfldT (k:=k) (j:=3) (p:=C) rfl (by rw[ap u,ap (aD t s),ap u];exact t) rfl d ai (by show(2:Nat)<1000;decide) λl h2=>?_;have g:l≠x:=λe=>by rw[e,ai]at h2;cases h2
 have i:l≠r:=λe=>by rw[e,ap a,ai]at h2;cases h2
 have v:H l=none:=by rw[ap g,ap i,ap g]at h2;exact h2
 exists sfldV (k:=k) (j:=4) rfl rfl d ai (by show(3:Nat)<1000;decide) ?_;exists sfldV (k:=k) (j:=5) rfl rfl d ai (by show(4:Nat)<1000;decide) ?_;refine q _ (λb o f e=>?_) ⟨d,w,r,l,by rw[ai];rfl,?_,?_⟩
 . rw[ap f,ap f,ap f,ap (aD e v),ap f,ap (aD e s),ap f];exact e
 . rw[ap a,ap a,ap a,ap i.symm,ap a,ai]
 . rw[ap g,ap g,ap g,ai]
def uw(K:Frag)(c:Uk):Sp:=λvs H Q E=>∃ k,Ac K c k vs H Q E
def oH(K:Frag)(c:Uk):TS:=#[":jbiVk0'xdf#0 "]
def CI(h:uw K c vs H Q E):oH K c (eD9 Q) (start ["self"] vs) H:=by
 obtain⟨k,r,p,w,b,cs,n,m,rfl,x,q⟩:=h;obtain⟨d,W,C,h1,h2,h3⟩:=x.ex;exists oH;refine fldE rfl x.ok h1 (v:=.ref W) (by rfl) ?_;symm;have a:atI (((w::b).map tx).map V.str) 0=some (V.str (tx w)):=dS (j:=0) rfl;exact ixT h2 a q
def tD(K:Frag)(c:Uk):Sp:=λvs H Q E=>∃ k,jQ K c k vs H Q E
def m7(K:Frag)(c:Uk):TS:=#[":jn+aVk0~Ne"]
def Br(h:tD K c vs H Q E):m7 K c (eD9 Q) (start ["self"] vs) H:=by
 obtain⟨k,r,p,b,cs,n,m,rfl,x,q⟩:=h;obtain⟨a,W,C,h1,h2,h3⟩:=x.ex;exists m7;refine fldE rfl x.ok h1 (v:=.ref C) (by rfl) ?_;exists J1 h3 q
def qY(K:Frag)(c:Uk):Sp:=λvs H Q E=>∃ k,kn K c k vs H Q E
def l7(K:Frag)(c:Uk):TS:=#[":jVk0~v"]
def Ad(h:qY K c vs H Q E):l7 K c (eD9 Q) (start ["self"] vs) H:=by
 obtain⟨k,r,p,b,cs,n,m,rfl,x,q⟩:=h;obtain⟨a,W,C,h1,h2,h3⟩:=x.ex;exists l7;exact fldE rfl x.ok h1 (v:=.int n) (by rfl) q
def ux(K:Frag)(c:Uk):Sp:=λvs H Q E=>∃ k,l6 K c k vs H Q E
def oI(K:Frag)(c:Uk):TS:=#[":jVk0'b"]
def CJ(h:ux K c vs H Q E):oI K c (eD9 Q) (start ["self"] vs) H:=by
 obtain⟨k,r,p,b,cs,n,m,rfl,x,q⟩:=h;obtain⟨a,W,C,h1,h2,h3⟩:=x.ex;exists oI;exact fldE rfl x.ok h1 (v:=.int m) (by rfl) q
def oJ(K:Frag)(c:Uk):Sp:=λvs H Q E=>∃ k,gZ K c k vs H Q E
def jS(K:Frag)(c:Uk):TS:=#[":jz&--1 'ycVk0~Nh#1 Hbi21"]
def xu(h:oJ K c vs H Q E):jS K c (eD9 Q) (start ["self","filling"] vs) H:=by
 obtain⟨k,r,p,f,A,cs,d,n,m,rfl,x,i,⟨u,s⟩,q⟩:=h;obtain⟨t,W,C,h1,h2,h3⟩:=x.ex;ac_nf;unfold jS;rw[cH,E7];refine fldE rfl x.ok h1 (v:=.ref C) (by rfl) ?_;refine⟨C,rfl,⟨_,Ud h3⟩,?_⟩;refine AY (xs:=cs) (λ_=>true) (λc=>d.getD c.toNat 0) #[0] h3 ?_ ?_ ?_
 . intro x b R y a k1;exact k1 _ (P2 _)
 . intro z b g o w a k1;show tOp cIx _ _ [none,⇑z,↑f] b g;symm;have:=s z o;exact ixI (a _ _ i) this.1 #[0] (k1 _ (P2 _))
 . intro l b j a e;rw[bq]at e;exact q l b a j e
def oK(K:Frag):Sp:=#[3,∃ n:Nat,vs=[.str (tx (numC n))]/\n<100/\∀ a,Same H a->Q (.int n) a]
def oM(K:Frag):TS:=#[":goBmbsc0dqr=Bmb>nxa0edf#9 Wmbscbi0df#0 dqr`0mbEc0dqr`0jdSpgoJwn~aaz&-- '*0h#1 HbNcC1dqr`1ejdSpjn'za0e",[48],[48,49,50,51,52,53,54,55,56,57]]
def Lj{c:Nat}(h0:48<=c)(h1:c<=57):(!(Builtin.Str.occurrences (tx [48,49,50,51,52,53,54,55,56,57]) ⟨#[c]⟩ 0 (tx [48,49,50,51,52,53,54,55,56,57]).length 1).isEmpty)=true:=by
 have t:((List.range 58).all λc=>!decide (48<=c)||!(Builtin.Str.occurrences (tx [48,49,50,51,52,53,54,55,56,57]) ⟨#[c]⟩ 0 (tx [48,49,50,51,52,53,54,55,56,57]).length 1).isEmpty)=true:=by decide+kernel
 have:=Qj.mp t c (Qf.mpr #[0])
 simpa [h0] using this
theorem CK(h:oK K vs H Q E):oM K (eD9 Q) (start ["word"] vs) H:=by
 obtain⟨n,rfl,k,q⟩:=h;have f:=Li k;have z:=gY (n:=n);ac_nf;unfold oM;rw[ax,az];symm;rw[dJ,P3 f];refine iteF ⟨by rw[gu];exact aQ #[0],?_⟩;symm;rw[gu,P3 (show ¬ (9:Int) < ((numC n).length:Nat) by omega)];refine iteF ?_;rw[L7,gu,yA]
 obtain⟨c,r,ec⟩:∃ c r,numC n=c::r:=by
  cases e:numC n with
  | nil=>exact absurd e f
  | cons c r=>exact⟨c,r,rfl⟩
 refine⟨aQ #[0],bt (a:=c) (by rw[ec];exact dS (j:=0) rfl) ?_⟩;symm
 have e1:decide ((⟨#[c]⟩:Str)=tx [48])=decide (c=48):=by
  have:(⟨#[c]⟩:Str)=tx [c]:=rfl;rw[this,dJ];simp
 rw[e1,dJ]
 have e2:(decide (c=48)=true->decide (numC n=[48])=true):=by
  intro h;rw[P6]at h;have:=(IW k).1 (by rw[ec,h];rfl);subst this;decide
 have d:tSeq (tIfS (tNot (tB (tCB kAll (tCons (tComp [none,none] (iStr (tVar 0)) (gName 1) tTrue (tOp (cIn K false) (tVar 1) (tC (.str (tx [48,49,50,51,52,53,54,55,56,57]))))) tNil)))) (tRet (tC .non)) tNext) (tRet (tCB sy (tCons (tVar 0) tNil)))
   (eD9 Q) [some (.str (tx (numC n)))] H:=by
  rw[ax,az];exists Ho (cs:=numC n) (λ_=>true) (λ_=>.bl true) #[0] ?_ ?_ ?_
  . intro i c g R m o k1;exact k1 _ (P2 _)
  . intro i c g u m p o k1;have s:=E8 k c (Qi m);show tOp (cIn K false) _ _ [none,some (.str (tx [c]))] g u;symm;have x:=k1 _ (P2 g);show u (.bl (if false=true then _ else !(Builtin.Str.occurrences (tx [48,49,50,51,52,53,54,55,56,57]) (tx [c]) 0 (tx [48,49,50,51,52,53,54,55,56,57]).length 1).isEmpty)) g;rw[Qp P7,show tx [c]=⟨#[c]⟩ from rfl,Lj s.1 s.2];exact x
  . intro l g w o t
    have y:((List.range (numC n).length).filter λ_=>true).map (λ_=>V.bl true)=(List.replicate (numC n).length true).map V.bl:=by
     rw[bq,List.map_const',QU,Ti]
    rw[y]at t;refine nO t ?_
    have v:(List.replicate (numC n).length true).all id=true:=by
     rw[Qj];intro b p;exact(Tj.mp p).2
    rw[v];exists⟨n,k,rfl,q _ o⟩
 cases m:decide (c=48) with
 | false=>
  refine iteF ?_;exact d
 | true=>
  refine iteT ?_;rw[e2 m];exact d
def gH(K:Frag):Sp:=#[3,∃ n b a,vs=[.str (tx (numC n)),.int b,.int a]/\n<100/\b<=n/\n<=a/\∀ c,Same H c->Q (.int n) c]
def jT(K:Frag):TS:=#[":gl,'+ca0eh#3 goBmb~q3dSBmb<31mb>32Xpj3"]
def xv(h:gH K vs H Q E):jT K (eD9 Q) (start ["word","least","most","number"] vs) H:=by
 obtain⟨n,d,a,rfl,c,h0,h1,q⟩:=h;exists jT;refine⟨n,rfl,c,λf b=>?_⟩;symm;rw[az];symm;rw[P3 (show ¬ V.int n=V.non from λe=>nomatch e)];refine iteF ?_;rw[P3 (show ¬ (n:Int)<d by omega)];refine iteF ?_;rw[P3 (show ¬ a < (n:Int) by omega)];refine iteF ?_;exists q _ b
def WOk(a:List (List Nat)):Prop:=∀ w∈a,∀ c∈w,c<128
variable{w:List Nat}
def WOk.cons{b:List (List Nat)}(h:∀ c∈w,c<128)(d:WOk b):WOk (w::b):=λv a=>by
 rcases Qs.mp a with rfl | a
 . exact h
 . exact d v a
variable{n:Nat}
def Ae(h:n<100):∀ c∈numC n,c<128:=λc a=>by have:=E8 h c a;omega
def FU(h:∀ c∈w,c<128):PyData.strOk (tx w)=true:=by
 unfold PyData.strOk;simp[tx];intro c a;have:=h c a;omega
def WOk.strs{a:List (List Nat)}(h:WOk a):∀ x∈a.map tx,PyData.strOk x=true:=λx c=>by
 obtain⟨w,b,rfl⟩:=Qe.mp c;exact FU (h w b)
def fN(K:Frag):Sp:=#[3,∃ p n d b a,vs=[.ref p,.int b,.int a]/\H p=↥(((numC n::d).map tx).map V.str)/\n<100/\WOk d/\b<=n/\n<=a/\∀ c,Same H c->Q (.int n) c]
def kJ(K:Frag):TS:=#[":gombsc0ueXpj,'Acabi0df#0 a1a2e"]
theorem DVs.strs{K:Frag}{H:Hp}:∀ ns:List Str,DVs K H (ns.map V.str) (ns.map PyData.str)
 | []=>.nil
 | n::r=>.cons (.str n) (DVs.strs r)
def kq(a b:Str):PyData.eqv (.str a) (.str b)=decide (a=b):=by
 rw[PyData.eqv];by_cases h:a=b
 . subst h;simp
 . simp[h]
def mH(ns:List Str)(b:∀ x∈ns,PyData.strOk x=true):SeqAt.shaped (.list (ns.map PyData.str))=true:=by
 have h1:PyData.canLayAll0 (ns.map PyData.str)=true:=qW λd a=>by obtain⟨x,c,rfl⟩:=Qe.mp a;rw[PyData.canLay0];exact b x c
 have h2:PyData.depthAll (ns.map PyData.str)<=0:=px λd a=>by obtain⟨x,_,rfl⟩:=Qe.mp a;exact Qd _
 simp[SeqAt.shaped,PyData.canLay0,h1,PyData.depth];omega
variable{xs:List Str}
def Lk{q:Addr}{ys:List Str}(b:H p=↥(xs.map V.str))(a:H q=↥(ys.map V.str))(h1:∀ x∈xs,PyData.strOk x=true)(h2:∀ x∈ys,PyData.strOk x=true)(h:Q (.bl (decide (xs=ys))) H):cEq K (.ref p) (.ref q) H Q:=by
 show rEqD K (.ref p) (.ref q) H Q;refine⟨.list (xs.map PyData.str),.list (ys.map PyData.str),.lst (Qh b) (.strs xs),.lst (Qh a) (.strs ys),mH xs h1,mH ys h2,?_⟩;rw[PyData.eqv,Aa PyData.str kq];exact h
def Lm{q:Addr}{ys:List Str}(b:H p=↥(xs.map V.str))(a:H q=↥(ys.map V.str))(h1:∀ x∈xs,PyData.strOk x=true)(h2:∀ x∈ys,PyData.strOk x=true)(h:Q (.bl (!decide (xs=ys))) H):cNe K (.ref p) (.ref q) H Q:=by
 show rNeD K (.ref p) (.ref q) H Q;refine⟨.list (xs.map PyData.str),.list (ys.map PyData.str),.lst (Qh b) (.strs xs),.lst (Qh a) (.strs ys),mH xs h1,mH ys h2,?_⟩;rw[PyData.eqv,Aa PyData.str kq];exact h
def yE(h:fN K vs H Q E):kJ K (eD9 Q) (start ["words","least","most"] vs) H:=by
 obtain⟨p,n,o,k,d,rfl,b,c,e,h0,h1,q⟩:=h;ac_nf;unfold kJ;rw[ax,az];exists⟨aQ #[1],λl i=>?_⟩;have a:Same H (upd H l (.lst [])):=(P2 H).laid i;refine Lk (a _ _ b) (ys:=[]) ai (WOk.strs (WOk.cons (Ae c) e)) (λx m=>nomatch m) ?_;generalize upd H l (.lst [])=H1 at*;symm;rw[P3 (by simp)];refine iteF ?_;symm;have f:atI (((numC n::o).map tx).map V.str) 0=some (V.str (tx (numC n))):=dS (j:=0) rfl;refine ixL (a _ _ b) f ?_;exists⟨n,k,d,rfl,c,h0,h1,λr g=>q _ (a.trans g)⟩
def IX(a:∅)(v:Int):(step_dedup a v).length<=a.length+1:=by
 unfold step_dedup
 split <;> simp
theorem CL:∀(l a:∅),(l.foldl step_dedup a).length<=a.length+l.length
 | [],a=>by simp
 | x::r,a=>by
  have h1:=CL r (step_dedup a x);have h2:=IX a x;rw[Sb,QC];omega
theorem wD:∀(l c:∅),c.Nodup->((l.foldl step_dedup c).length=c.length+l.length↔(c++l).Nodup)
 | [],c,h=>by simpa using h
 | x::r,c,h=>by
  rw[Sb];by_cases d:x∈c
  . have e:step_dedup c x=c:=by
     unfold step_dedup;rw[Qt (by simpa using d)]
    rw[e];have:=CL r c;constructor
    . intro z;rw[QC]at z;omega
    . intro z;have:=(RS.mp z).2.2 x d x Qm;exact absurd rfl this
  . have e:step_dedup c x=c++[x]:=by
     unfold step_dedup;rw[Qp (by simpa using d)]
    rw[e];have i:(c++[x]).Nodup:=RS.mpr ⟨h,by simp,λa j b g z=>d (by rw[Qz.mp g]at z;exact z ▸ j)⟩;have f:=wD r (c++[x]) i;rw[Qn,T5]at f;rw[QC,show c.length+(r.length+1)=c.length+1+r.length by omega,show c++x::r=c++[x]++r by simp];exact f
def Af(ns:∅):(List.range ns.length).map (λi=>ns.getD i 0)=ns:=by
 have:=tz ns (λx=>x)
 simpa using this
def IY(ns:∅):cntD ns=ns.length↔ns.Nodup:=by
 unfold cntD firstMet;rw[Af];have:=wD ns [] Tg
 simpa using this
def m8(K:Frag):Sp:=#[3,∃(a p:Addr) (h w g:Int) (b:List Nat),vs=[.ref a,.ref p]/\IsFl H a h w g/\FlOk h w g/\H p=↥(((b.map numC).map tx).map V.str)/\b≠[]/\b.length<=16/\(∀ n∈b,(n:Int)<h*w)/\b.Nodup/\
 ∀ l c,Same H c->H l=none->c l=↥((b.map λ(n:Nat)=>(n:Int)).map V.int)->Q (.ref l) c]
def nc(K:Frag):TS:=#[":g~w#2 &--0 yc1h#1 H,'Aca1adf#0 abI,~uca2edf#1 egombsc2ueXpgombEc'B2nxa2eXpj2"]
variable{ns:List Nat}
theorem yF(h:ns.Nodup):(ns.map λ(n:Nat)=>(n:Int)).Nodup:=by
 induction ns with
 | nil=>exact Tg
 | cons a r ih=>
  rw[Rr]at h;rw[QJ,Rr];refine⟨λz=>?_,ih h.2⟩;obtain⟨b,hb,e⟩:=Qe.mp z
  exact h.1 (by have:b=a:=by omega
                exact this ▸ hb)
def Bs(h:m8 K vs H Q E):nc K (eD9 Q) (start ["floor","words","cells"] vs) H:=by
 obtain⟨a,p,h,w,g,ns,rfl,G,F,s,m,r,k,o,q⟩:=h;obtain⟨h0,h1,O,I,u,M,L⟩:=F;exists nc;refine⟨⟨_,Qh s⟩,?_⟩;refine bM (xs:=((ns.map numC).map tx).map V.str) (λ_=>true) (λi=>.int (ns.getD i 0:Nat)) (by simp;omega) (Qh s) ?_ ?_ ?_
 . intro i x b R d j k1;exact k1 _ (P2 _)
 . intro i x b A d J j k1;rw[P5,P5,P5]at d
   cases e:ns[i]? with
   | none=>rw[e]at d;cases d
   | some n=>
    rw[e]at d;cases d;have N:=k n (Qi e);show tCall _ _ _ _ [none,some (.str (tx (numC n))),↑a] b A;exists⟨a,h,w,g,rfl,j _ _ G,h0,h1,?_⟩;exists⟨n,0,_,rfl,by omega,by omega,by omega,λC c=>?_⟩;have t:=k1 _ c;have y:ns.getD i 0=n:=by rw[List.getD,e];rfl
    rw[y]at t;exact t
 . intro l b B j f
   have v:((List.range (((ns.map numC).map tx).map V.str).length).filter λ_=>true).map (λi=>V.int (ns.getD i 0:Nat))=(ns.map λ(n:Nat)=>(n:Int)).map V.int:=by
    rw[bq,P0,P0,P0,QO];refine Rp λi=>?_;rw[P5,P5];by_cases h:i<ns.length
    . rw[Ra h,P1 h];simp[List.getD,h]
    . rw[Qr (by simpa using h),Qr #[0]];rfl
   rw[v]at f;symm;rw[az];exists⟨aQ #[1],λz D=>?_⟩;have c:Same b (upd b z (.lst [])):=(P2 b).laid D;refine pr (c _ _ f) (ys:=[]) ai ?_;generalize upd b z (.lst [])=C at*;symm;rw[P3 (by simpa using m)];refine iteF ?_;symm;rw[az];exists⟨l,_,rfl,c _ _ f,by rw[P0];omega,?_⟩;rw[aO (c _ _ f),P0];symm;rw[P4 (by rw[(IY _).mpr (yF o)])];refine iteF ?_;exists q l _ (j.trans c) B (c _ _ f)
def allK:RK->Bool
 | .Joined=>true
 | .NoSquare=>true
 | .Ring=>true
 | _=>false
def numK:RK->Bool
 | .Sum=>true
 | .Seen=>true
 | .Count=>true
 | _=>false
def sgnK:RK->Bool
 | .Count=>true
 | .Joined=>true
 | .NoSquare=>true
 | .Ring=>true
 | _=>false
def Lo(k:RK):decide (tx (nmC k)∈iy)=allK k:=by cases k <;> decide+kernel
def Lp(k:RK):decide (tx (nmC k)∈jb)=numK k:=by cases k <;> decide+kernel
def Lq(k:RK):decide (tx (nmC k)∈iH)=sgnK k:=by cases k <;> decide+kernel
structure Ag(k:RK)(h w:Int)(ns:List Nat)(cs:∅):Prop where
 told:allK k=false->ns≠[]/\ns.length<=16/\(∀ n∈ns,(n:Int)<h*w)/\ns.Nodup/\cs=ns.map λ(n:Nat)=>(n:Int)
 all:allK k=true->ns=[]/\cs=rngL 0 (h*w)
def qj(K:Frag):Sp:=#[3,∃ k a p h w g ns cs,vs=[.ref a,.str (tx (nmC k)),.ref p]/\IsFl H a h w g/\FlOk h w g/\H p=↥(((ns.map numC).map tx).map V.str)/\Ag k h w ns cs/\(∀ n∈ns,n<100)/\
 ∀ l b,Same H b->H l=none->b l=↥(cs.map V.int)->Q (.ref l) b]
def qk(K:Frag):TS:=#[":gow~r'-P1j,'/ca0a2epgombEc2ueXpj'ca,~uca0ee"]
theorem Eo(h:qj K vs H Q E):qk K (eD9 Q) (start ["floor","name","words"] vs) H:=by
 obtain⟨k,a,p,h,w,g,ns,cs,rfl,m,F,e,d,y,q⟩:=h;obtain⟨h0,h1,C,v,n,B,A⟩:=id F;have i:0<=h*w:=Rw #[0] #[0];ac_nf;unfold qk;rw[ax,az];symm;rw[Lo]
 cases j:allK k with
 | false=>
  obtain⟨u,r,o,s,rfl⟩:=d.told j;exists⟨a,p,h,w,g,ns,rfl,m,F,e,u,r,o,s,q⟩
 | true=>
  obtain⟨rfl,rfl⟩:=d.all j;symm;rw[az];exists⟨aQ #[1],λz t=>?_⟩;have b:Same H (upd H z (.lst [])):=(P2 H).laid t;refine Lm (xs:=[]) (ys:=[]) (b _ _ e) ai (λx c=>nomatch c) (λx c=>nomatch c) ?_;generalize upd H z (.lst [])=H1 at*;exists⟨a,h,w,g,rfl,b _ _ m,h0,h1,?_⟩;exists⟨h*w,rfl,by omega,by omega,λl f=>?_⟩;exact q l _ (b.laid f) (b.free f) ai
def sC(K:Frag)(c:Uk):Sp:=#[3,∃ k p W C b cs n m,vs=[.ref p,.ref W,.ref C,.int n,.int m]/\k≠.Rule/\c.ok k=true/\H W=↥(((nmC k::b).map tx).map V.str)/\H C=↥(cs.map V.int)/\
 ∀ r a,Same H a->H r=none->IsRule a c k r p (nmC k::b) cs n m->Q (.ref r) a]
def sD(K:Frag)(c:Uk):TS:=#[":glbi1df#0 h#5 gombsc5dqr`0j~b~g':~hck=~ca0a1a2a3a4epgombsc5dqr`1j~b~g';~hck=~ca0a1a2a3a4epgombsc5dqr`2j~b~g'?~hck=~ca0a1a2a3a4epgombsc5dqr`3j~b~g'[~hck=~ca0a1a2a3a4epgombsc5dqr`4j~b~g']~hck=~ca0a1a2a3a4epgombsc5dqr`5j~b~g'^~hck=~ca0a1a2a3a4epgombsc5dqr`6j~b~g{a~hck=~ca0a1a2a3a4epgombsc5dqr`7j~b~g{b~hck=~ca0a1a2a3a4epX",[117,110,108,105,107,101],[115,117,109],[114,105,115,105,110,103],[115,101,101,110],[99,111,117,110,116],[106,111,105,110,101,100],[110,111,115,113,117,97,114,101],[114,105,110,103]]
def J3{k:RK}{W C:Addr}{i:List (List Nat)}{n m:Int}(s:c.ok k=true)(f:H W=↥((i.map tx).map V.str))(g:H C=↥(cs.map V.int))(q:∀ r d,Same H d->H r=none->IsRule d c k r p i cs n m->Q (.ref r) d):
  ∀ x dx,H x=none->H dx=none->dx≠x->aW K c (.ref x::([.ref p,.ref W,.ref C,.int n,.int m]++[])) (upd (upd H dx (.own x)) x (.ins (c.A k) dx [])) (λv l=>v=.non/\Q (.ref x) l) E0:=by
 intro x dx a h u;refine⟨k,x,dx,p,W,C,i,cs,n,m,rfl,s,ai,aD f a,aD g a,?_,?_,λd j t=>⟨rfl,q x d (λb o e=>j b o (aD e a) ?_) a t⟩⟩
 . rw[ap (aD f a),ap (aD f h)];exact f
 . rw[ap (aD g a),ap (aD g h)];exact g
 . rw[ap (aD e a),ap (aD e h)];exact e
theorem FV(h:sC K c vs H Q E):sD K c (eD9 Q) (start ["floor","words","cells","amount","mark","name"] vs) H:=by
 obtain⟨k,p,W,C,s,cs,n,m,rfl,i,o,a,r,q⟩:=h;have mk:=J3 (K:=K) o a r q;have e:atI (((nmC k::s).map tx).map V.str) 0=some (V.str (tx (nmC k))):=dS (j:=0) rfl;exists sD;refine ixL a e ?_
 have D:∀(l:List Nat) (t:TS) (u:TS) (D:Ends) (b:Bool),decide (nmC k=l)=b->(if b=true then t D [↑p,↑W,↑C,⇑n,⇑m,some (.str (tx (nmC k)))] H else u D [↑p,↑W,↑C,⇑n,⇑m,some (.str (tx (nmC k)))] H)->
   tIfS (tTest (tOp (cEq K) (tVar 5) (tC (.str (tx l))))) t u D [↑p,↑W,↑C,⇑n,⇑m,some (.str (tx (nmC k)))] H:=λl t u D b g f=>by
  rw[az];symm;rw[dJ,g];exact f
 have R:∀(D:Ends),D.rt=Q->tRet (tMake (c.A k) (aW K c) [] E0 (tCons (tVar 0) (tCons (tVar 1) (tCons (tVar 2) (tCons (tVar 3) (tCons (tVar 4) tNil)))))) D [↑p,↑W,↑C,⇑n,⇑m,some (.str (tx (nmC k)))] H:=λD d=>by
  symm;rw[d];exact mk
 cases k with
 | Rule=>exact absurd rfl i
 | Unlike=>exact D _ _ _ _ true #[1] (iteT (R _ rfl))
 | Sum=>exact D _ _ _ _ false #[1] (iteF (D _ _ _ _ true #[1] (iteT (R _ rfl))))
 | Rising=>exact D _ _ _ _ false #[1] (iteF (D _ _ _ _ false #[1] (iteF (D _ _ _ _ true #[1] (iteT (R _ rfl))))))
 | Seen=>exact D _ _ _ _ false #[1] (iteF (D _ _ _ _ false #[1] (iteF (D _ _ _ _ false #[1] (iteF (D _ _ _ _ true #[1] (iteT (R _ rfl))))))))
 | Count=>exact D _ _ _ _ false #[1] (iteF (D _ _ _ _ false #[1] (iteF (D _ _ _ _ false #[1] (iteF (D _ _ _ _ false #[1] (iteF (D _ _ _ _ true #[1] (iteT (R _ rfl))))))))))
 | Joined=>exact D _ _ _ _ false #[1] (iteF (D _ _ _ _ false #[1] (iteF (D _ _ _ _ false #[1] (iteF (D _ _ _ _ false #[1] (iteF (D _ _ _ _ false #[1] (iteF (D _ _ _ _ true #[1] (iteT (R _ rfl))))))))))))
 | NoSquare=>exact D _ _ _ _ false #[1] (iteF (D _ _ _ _ false #[1] (iteF (D _ _ _ _ false #[1] (iteF (D _ _ _ _ false #[1] (iteF (D _ _ _ _ false #[1] (iteF (D _ _ _ _ false #[1] (iteF (D _ _ _ _ true #[1] (iteT (R _ rfl))))))))))))))
 | Ring=>exact D _ _ _ _ false #[1] (iteF (D _ _ _ _ false #[1] (iteF (D _ _ _ _ false #[1] (iteF (D _ _ _ _ false #[1] (iteF (D _ _ _ _ false #[1] (iteF (D _ _ _ _ false #[1] (iteF (D _ _ _ _ false #[1] (iteF (D _ _ _ _ true #[1] (iteT (R _ rfl))))))))))))))))
def rowW(k:RK)(n m:Nat)(ns:List Nat):List (List Nat):=nmC k::((if numK k then [numC n] else [])++(if sgnK k then [numC m] else [])++ns.map numC)
structure CM(k:RK)(h w g:Int)(n m:Nat)(ns:List Nat)(cs:∅):Prop where
 k0:k≠.Rule
 n0:n<=99
 nz:numK k=false->n=0
 m0:sgnK k=true->1<=(m:Int)/\(m:Int)<=g
 mz:sgnK k=false->m=0
 cl:Ag k h w ns cs
 ns0:∀ x∈ns,x<100
 len:ns.length<=16
def oN(K:Frag)(c:Uk):Sp:=#[3,∃ k p h w g n m ns cs,vs=[.ref p,.str (tx (catL 32 (rowW k n m ns)))]/\IsFl H p h w g/\FlOk h w g/\CM k h w g n m ns cs/\c.ok k=true/\
 ∀ r a,Same H a->H r=none->IsRule a c k r p (rowW k n m ns) cs n m->Q (.ref r) a]
def iz(K:Frag)(c:Uk):TS:=#[":j,{ccka0a2a,{dca0a3a4ea5a6e"]
def kK(K:Frag)(c:Uk):TS:=#[":glbi2df#0 h#3 gl~k~l2~ddf#1 ~xh#4 gldf#0 h#5 gldf#0 h#6 gow~r{eC3gl,'Cca4adf#0 adf#99 eh#5 l~k~l4~ddf#1 ~xh#4 pgow~r{fC3gl,'Cca4adf#1 abi0df#2 eh#6 l~k~l4~ddf#1 ~xh#4 p{gck"]
def oO(K:Frag)(c:Uk):TS:=#[":goJwn/a1ad-~yeXpglRc~y{h1adqr`0eh#2 {ick",[32]]
def J4(k:RK):32∉nmC k:=by cases k <;> decide
def Ma(k:RK):∀ c∈nmC k,c<128:=by cases k <;> decide
variable{m:Nat}
def Hy{k:RK}(d:n<100)(e:m<100)(b:∀ x∈ns,x<100):∀ r∈rowW k n m ns,32∉r:=by
 intro r a;unfold rowW at a;rcases Qs.mp a with rfl | a
 . exact J4 k
 rcases QD.mp a with a | a
 . rcases QD.mp a with a | a
   . split at a
     . rw[Qz.mp a];exact xq d
     . cases a
   . split at a
     . rw[Qz.mp a];exact xq e
     . cases a
 . obtain⟨x,c,rfl⟩:=Qe.mp a;exact xq (b x c)
theorem IZ(xs:List V):cutV xs (some 1) none=xs.drop 1:=by
 unfold cutV;have h1:HT.sIx xs.length 0 (some 1)=min 1 xs.length:=HT.sIx_nat ..;have h2:HT.sIx xs.length xs.length none=xs.length:=rfl;rw[h1,h2]
 cases xs with
 | nil=>rfl
 | cons x r=>
  have:min 1 (x::r).length=1:=by simp
  rw[this];show(r).take _=r;rw[Q8 (by simp)]
def pB {k:RK} {W R:Addr} {h w g:Int} {d:List (List Nat)} {v:V} (F:FlOk h w g) (u:IsFl H p h w g) (y:H W=↥(((nmC k::d).map tx).map V.str)) (e:H R=↥(((ns.map numC).map tx).map V.str)) (t:Ag k h w ns cs) (j:∀ x∈ns,x<100) (k0:k≠.Rule) (s:c.ok k=true)
  (q:∀ r b,Same H b->H r=none->IsRule b c k r p (nmC k::d) cs n m->Q (.ref r) b):
  iz K c (eD9 Q) [↑p,some v,↑W,some (.str (tx (nmC k))),↑R,⇑n,⇑m] H:=by
 unfold iz;exists⟨k,p,R,h,w,g,ns,cs,rfl,u,F,e,t,j,λl A a B z=>?_⟩;exists⟨k,p,W,l,d,cs,n,m,rfl,k0,s,a _ _ y,z,λr f i o x=>q r f (a.trans i) (a.free o) x⟩
def Ep{k:RK}(h:ns.length<=16):(rowW k n m ns).length<=100/\∀ w∈rowW k n m ns,w.length<=100:=by
 unfold rowW;refine⟨?_,λw a=>?_⟩
 . simp only[QC,Qn,P0]
   split <;> split <;> simp <;> omega
 . rcases Qs.mp a with rfl | a
   . cases k <;> decide
   have h2:∀ x,(numC x).length<=100:=λx=>Qa gY #[1];rcases QD.mp a with a | a
   . rcases QD.mp a with a | a
     . split at a
       . rw[Qz.mp a];exact h2 _
       . cases a
     . split at a
       . rw[Qz.mp a];exact h2 _
       . cases a
   . obtain⟨x,b,rfl⟩:=Qe.mp a;exact h2 _
theorem yG:∀(a:List (List Nat)),(∀ r∈a,r.length<=100)->(catL 32 a).length<=101*a.length
 | [],_=>QI _
 | [x],h=>by
  have:=h x Qm;show x.length<=101*1;omega
 | x::y::r,h=>by
  have h1:=h x Qm;have c:=yG (y::r) λz b=>h z (Qg _ b);have e:catL 32 (x::y::r)=x++32::catL 32 (y::r):=by first | rfl | simp[catL]
  rw[e,Qn,QC,QC];omega
def Ah{x:Str}(a:H p=↥((x::xs).map V.str))(q:∀ l,H l=none->Q (.ref l) (upd H l (.lst (xs.map V.str)))):ou (.ref p) (some 1) none H Q:=by
 refine yw a λl b=>?_;rw[IZ];exact q l b
theorem yH {k:RK} {W:Addr} {h w g:Int} {L:V} (F:FlOk h w g) (J:IsFl H p h w g) (z:H W=↥(((rowW k n m ns).map tx).map V.str)) (O:CM k h w g n m ns cs) (P:c.ok k=true)
  (q:∀ r I,Same H I->H r=none->IsRule I c k r p (rowW k n m ns) cs n m->Q (.ref r) I):
  kK K c (eD9 Q) [↑p,some L,↑W,none,none,none,none] H:=by
 obtain⟨k0,n0,nz,M,mz,S,f,ab⟩:=O;obtain⟨h0,h1,w0,w1,U,g0,g1⟩:=id F;have Y:atI (((rowW k n m ns).map tx).map V.str) 0=some (V.str (tx (nmC k))):=dS (j:=0) rfl;have t:WOk (ns.map numC):=λv b=>by obtain⟨x,Z,rfl⟩:=Qe.mp b;exact Ae (f x Z)
 unfold kK;exists ixL z Y ?_;exists Ah z λR hR=>?_;obtain⟨H1,z9,T,y⟩:=aU (.lst ((((if numK k then [numC n] else [])++(if sgnK k then [numC m] else [])++ns.map numC).map tx).map V.str)) hR;rw[z9];symm
 have u:∀{B:Hp} {A:Addr},Same H B->B A=↥((((if sgnK k then [numC m] else [])++ns.map numC).map tx).map V.str)->
   tSeq (tIfS (tB (tInG iH false (tVar 3))) (tSeq (tAsg (tCall (fN K) [] E0 (tCons (tVar 4) (tCons (tC (.int 1)) (tCons (tOp cIx (tVar 0) (tC (.int 2))) tNil)))) (gName 6)) (tAsg (tSl ou (tVar 4) (tPart (tC (.int 1))) kj) (gName 4))) tNext) (iz K c) (eD9 Q)
    [↑p,some L,↑W,some (.str (tx (nmC k))),↑A,⇑n,⇑0] B:=by
  intro B A o a;rw[ax,az];symm;rw[Lq]
  cases s:sgnK k with
  | false=>
   rw[s]at a;have:=mz s;subst this;exists pB F (o _ _ J) (o _ _ z) a S f k0 P λr e l G x=>q r e (o.trans l) (o.free G) x
  | true=>
   rw[s]at a;have N:=M s;exists ixT (o _ _ J) (v:=V.int g) rfl ?_;exists⟨A,m,ns.map numC,1,g,rfl,a,by omega,t,N.1,N.2,λe l=>?_⟩;exists Ah (l _ _ a) λE i=>?_;have C:Same e (upd e E (.lst (((ns.map numC).map tx).map V.str))):=(P2 e).laid i;have d:=(o.trans l).trans C;exact pB F (d _ _ J) (d _ _ z) ai S f k0 P λr X s5 G x=>q r X (d.trans s5) (d.free G) x
 rw[az];symm;rw[Lp]
 cases D:numK k with
 | false=>
  rw[D]at y;have:=nz D;subst this;exists u T y
 | true=>
  rw[D]at y;exists⟨R,n,(if sgnK k then [numC m] else [])++ns.map numC,0,99,rfl,y,by omega,?_,by omega,by omega,λe l=>?_⟩
  . intro v b;rcases QD.mp b with b | b
    . split at b
      . rename_i s
        have:=M s;rw[Qz.mp b];exact Ae #[0]
      . cases b
    . exact t v b
  exists Ah (l _ _ y) λE i=>?_;have C:Same e (upd e E (.lst ((((if sgnK k then [numC m] else [])++ns.map numC).map tx).map V.str))):=(P2 e).laid i;exists u ((T.trans l).trans C) ai
def CN(h:oN K c vs H Q E):oO K c (eD9 Q) (start ["floor","line","words","name","rest","amount","mark"] vs) H:=by
 obtain⟨k,p,h,w,g,n,m,ns,cs,rfl,o,F,O,l,q⟩:=h
 have u:m<100:=by
  by_cases e:sgnK k=true
  . have:=(O.m0 e).2;have:=F.g1;omega
  . have:=O.mz (by simpa using e);omega
 have d:Txt.split (tx (catL 32 (rowW k n m ns))) (tx [32])=(rowW k n m ns).map tx:=IP (by simp[rowW]) (Hy (by have:=O.n0;omega) u O.ns0);have f:=Ep (k:=k) (n:=n) (m:=m) O.len;have a:=yG _ f.2;ac_nf;unfold oO;rw[ax,az];exists⟨FN,?_⟩;rw[JS,d];refine⟨by rw[gu];decide,by rw[gu];exact QT (Rn a (Rn (Nat.mul_le_mul_left 101 f.1) #[1])),by rw[P0];exact aQ #[0],λW t=>?_⟩;have b:Same H (upd H W (.lst (((rowW k n m ns).map tx).map V.str))):=(P2 H).laid t;exact yH F (b _ _ o) ai O l λr i j s x=>q r i (b.trans j) (b.free s) x
theorem AZ{α β:Type}(f:α->β):∀(l:List α) (j:Nat),(l.map f).eraseIdx j=(l.eraseIdx j).map f
 | [],_=>rfl
 | _::_,0=>rfl
 | x::r,j+1=>by
  show f x::(r.map f).eraseIdx j=f x::(r.eraseIdx j).map f;rw[AZ f r j]
theorem yI{α:Type}:∀(l:List α) (j:Nat) (h:j<l.length),(l[j]::l.eraseIdx j).Perm l
 | [],_,h=>absurd h (by simp)
 | x::r,0,_=>List.Perm.refl _
 | x::r,j+1,h=>by
  have a:j<r.length:=by simpa using h
  have b:=yI r j a;show(r[j]::x::r.eraseIdx j).Perm (x::r);exact(List.Perm.swap x r[j] (r.eraseIdx j)).trans (List.Perm.cons x b)
theorem uy{α β:Type}(f:α->β):∀{l:List α},(l.map f).Nodup->l.Nodup
 | [],_=>Tg
 | a::r,h=>by
  rw[QJ,Rr]at h;rw[Rr];exact⟨λz=>h.1 (Qe.mpr ⟨a,z,rfl⟩),uy f h.2⟩
def Hz(n:Int):(rngL 0 n).Nodup:=by
 unfold rngL;have e:(List.range (n-0).toNat).map (λ(k:Nat)=>0+(k:Int))=(List.range (n-0).toNat).map λ(k:Nat)=>(k:Int):=S2 λk _=>by omega
 rw[e];exact yF List.nodup_range
def Fa{n x:Int}(h:x∈rngL 0 n):0<=x/\x<n:=by
 unfold rngL at h;obtain⟨k,a,rfl⟩:=Qe.mp h;have:=Qf.mp a;omega
def pC(K:Frag)(c:Uk):Sp:=fW K c .Unlike
def kL(K:Frag)(c:Uk):TS:=#[":glDkK~O~Pck0a1eh#2 jbsc'B2nxa2e"]
def yJ(h:pC K c vs H Q E):kL K c (eD9 Q) (start ["self","filling","signs"] vs) H:=by
 obtain⟨r,p,f,k,cs,xs,n,m,h,w,g,rfl,x,u,F,j,b,y,q⟩:=h;obtain⟨o,W,C,h1,h2,h3⟩:=x.ex;exists kL;refine methE rfl x.ok h1 (by rfl) ?_;exists⟨r,p,f,k,cs,xs,n,m,rfl,x,j,b,λl t i s d=>?_⟩;have v:(sgAt xs cs).length<=100:=by unfold sgAt;rw[P0];exact Qa b.1 #[1]
 exists⟨l,_,rfl,d,by omega,?_⟩;symm;rw[aO d,P0];symm;have a:=q _ i;unfold hoB at a;dsimp only at a
 have e:decide (((cntD (sgAt xs cs):Nat):Int)=((sgAt xs cs).length:Nat))=decide (cntD (sgAt xs cs)=(sgAt xs cs).length):=by
  rw[Qx,P6,P6];omega
 rw[e];exact a
def mI(xs:∅)(i:Nat)(y:Int):(xs.map V.int).set i (.int y)=(xs.set i y).map V.int:=by rw[List.map_set]
def vW(h:n<100):((n:Int)).natAbs.log2<1920:=by
 have t:((List.range 100).all λn=>decide (n.log2<1920))=true:=by decide+kernel
 have:=Qj.mp t n (Qf.mpr h)
 simpa using this
def J5(h:n<100)(q:Q (.str (tx (numC n))) H):kStr [.int (n:Int)] H Q:=by
 refine⟨vW h,?_⟩;rw[vV h];exact q
def A0 {C:Addr} {cs:List Nat} (r:H C=↥((cs.map λ(n:Nat)=>(n:Int)).map V.int)) (t:cs.length<=100) (p:∀ c∈cs,c<100)
  (m:∀ l g,H l=none->Same H g->g l=↥(((cs.map numC).map tx).map V.str)->fin l g):CompR (Itl K C) (gName 1) tTrue (tCB kStr (tCons (tVar 1) tNil)) fin [none,none] H:=by
 refine bM (xs:=(cs.map λ(n:Nat)=>(n:Int)).map V.int) (λ_=>true) (λi=>.str (tx (numC (cs.getD i 0)))) (by simp;omega) (Qh r) ?_ ?_ ?_
 . intro i x a R b f k1;exact k1 _ (P2 _)
 . intro i x a j b s f k1;rw[P5,P5]at b
   cases e:cs[i]? with
   | none=>rw[e]at b;cases b
   | some n=>
    rw[e]at b;cases b;show tCB kStr _ [none,⇑(n:Int)] a j;symm;have k:=k1 _ (P2 a);have q:cs.getD i 0=n:=by rw[List.getD,e];rfl
    rw[q]at k;have:=J5 (H:=a) (Q:=j) (p n (Qi e)) k;exact this
 . intro l a d f o;refine m l a d f ?_;rw[o,bq,P0,P0,QO,QO]
   congr 2
   refine Rp λi=>?_;rw[P5,P5];by_cases h:i<cs.length
   . rw[Ra h,P1 h];simp[List.getD,h]
   . rw[Qr (by simpa using h),Qr #[0]];rfl
theorem fX{c:Nat}{x:List Nat}:∀{a:List (List Nat)},a≠[]->catL c (x::a)=x++c::catL c a
 | [],h=>absurd rfl h
 | y::r,_=>by first | rfl | simp[catL]
section
variable{X:Cx}{a:Expr}{ta:TE}{pos p:Pos}{x:Str}{ws:List Str}
def yK(G:GTup X.K X.mg x ws)(g:PE X a ta)(f:Gl X x)(c:(x==("__debug__":Str))=false:=by decide)(l:behindInMarks .In (.Name x p)=false:=by with_unfolding_all rfl):PT X (.Compare a [.In] [.Name x p] pos) (tB (tInG ws false ta)):=by
 obtain⟨q,o,i,n,h1,h2⟩:=G.ex;have h0:=ak (pos:=pos) (Lh ⟨o,i,n,h2⟩) g (bB (v:=V.ref q) f h1 rfl c) l;intro j s σ H Q I h;refine h0 j s σ H Q I ?_
 have e:(λ(x:V) (b:Hp)=>∃ z,x=.str z/\∃ k,V.bl (if false=true then !decide (z∈ws) else decide (z∈ws))=.bl k/\Q k b)=λx b=>∃ z,x=.str z/\(V.ref q=V.ref q)/\∃ k,V.bl (decide (z∈ws))=.bl k/\Q k b:=by
  funext x b;simp
 have d:ta σ H (λ(x:V) (b:Hp)=>∃ z,x=.str z/\∃ k,V.bl (if false=true then !decide (z∈ws) else decide (z∈ws))=.bl k/\Q k b):=h;rw[e]at d;exact d
def Fb(G:GTup X.K X.mg x ws)(g:PE X a ta)(f:Gl X x)(c:(x==("__debug__":Str))=false:=by decide)(l:behindInMarks .NotIn (.Name x p)=false:=by with_unfolding_all rfl):PT X (.Compare a [.NotIn] [.Name x p] pos) (tB (tInG ws true ta)):=by
 obtain⟨q,o,i,n,h1,h2⟩:=G.ex;have h0:=ak (pos:=pos) (JX ⟨o,i,n,h2⟩) g (bB (v:=V.ref q) f h1 rfl c) l;intro j s σ H Q I h;refine h0 j s σ H Q I ?_
 have e:(λ(x:V) (b:Hp)=>∃ z,x=.str z/\∃ k,V.bl (if true=true then !decide (z∈ws) else decide (z∈ws))=.bl k/\Q k b)=λx b=>∃ z,x=.str z/\(V.ref q=V.ref q)/\∃ k,V.bl (!decide (z∈ws))=.bl k/\Q k b:=by
  funext x b;simp
 have d:ta σ H (λ(x:V) (b:Hp)=>∃ z,x=.str z/\∃ k,V.bl (if true=true then !decide (z∈ws) else decide (z∈ws))=.bl k/\Q k b):=h;rw[e]at d;exact d
end
inductive PzK where
 | Puzzle
 deriving DecidableEq
structure RR where
 k:RK
 n:Nat
 m:Nat
 ns:List Nat
 cs:∅
def RR.ws(r:RR):List (List Nat):=rowW r.k r.n r.m r.ns
def RR.txt(r:RR):Str:=tx (catL 32 r.ws)
def RR.Ok(r:RR)(h w g:Int):Prop:=CM r.k h w g r.n r.m r.ns r.cs
structure IsRules(H:Hp)(c:Uk)(p L:Addr)(rs:List Addr)(PP:List RR):Prop where
 top:H L=↥(rs.map V.ref)
 len:rs.length=PP.length
 at_:∀(i:Nat) (r:Addr) (x:RR),rs[i]? =some r->PP[i]? =some x->IsRule H c x.k r p x.ws x.cs x.n x.m
variable{H:Hp}{c:Uk}{p:Addr}{rs:List Addr}{PP:List RR}
def IsRules.same{a:Hp}{L:Addr}(x:IsRules H c p L rs PP)(s:Same H a):IsRules a c p L rs PP:=
 ⟨s _ _ x.top,x.len,λi r y h1 h2=>(x.at_ i r y h1 h2).same s⟩
variable{cs:∅}{o:HO}
def IsRule.lst{k:RK}{r a:Addr}{d:List (List Nat)}{n m:Int}{xs:List V}(x:IsRule H c k r p d cs n m)(b:H a=↥xs):IsRule (upd H a o) c k r p d cs n m:=by
 obtain⟨f,W,C,h1,h2,h3⟩:=x.ex;refine⟨x.ok,f,W,C,?_,?_,?_⟩
 . rw[ap (λe=>by rw[e,b]at h1;cases h1)];exact h1
 . rw[ap (λe=>by rw[e,b]at h2;cases h2)];exact h2
 . rw[ap (λe=>by rw[e,b]at h3;cases h3)];exact h3
def pFs(p L G:Addr):List (Str × V):=[("floor",.ref p),("laws",.ref L),("given",.ref G)]
structure yL(c:Uk)(h w g:Int)(PP:List RR):Prop where
 F:FlOk h w g
 n:PP.length<=12
 ok:∀ r∈PP,r.Ok h w g
 c:∀ r∈PP,c.ok r.k=true
structure CluesOk(h w g:Int)(cl:∅):Prop where
 len:cl.length=(h*w).toNat
 ok:∀ x∈cl,0<=x/\x<=g
abbrev Ul:=RCl PzK
structure IsPz(H:Hp)(c:Uk)(d:Ul)(P L G:Addr)(h w g:Int)(PP:List RR)(cl:∅):Prop where
 ok:d.ok .Puzzle=true
 R:yL c h w g PP
 C:CluesOk h w g cl
 gv:H G=↥(cl.map V.int)
 ex:∃ dx p rs,H P=some (.ins (d.A .Puzzle) dx (pFs p L G))/\IsFl H p h w g/\IsRules H c p L rs PP
variable{d:Ul}{cl:∅}
def IsPz.same{a:Hp}{P L G:Addr}{h w g:Int}(x:IsPz H c d P L G h w g PP cl)(s:Same H a):IsPz a c d P L G h w g PP cl:=by
 obtain⟨b,p,rs,h1,h2,h3⟩:=x.ex;exact⟨x.ok,x.R,x.C,s _ _ x.gv,b,p,rs,s _ _ h1,s _ _ h2,h3.same s⟩
def dP(K:Frag):Sp:=#[3,∃ i:Int,vs=[.int i]/\Q (.bl true) H]
def ql(K:Frag):TS:=#[":jGn/a0ad-'de~zn/a0ad-'De"]
variable{K:Frag}{vs:List V}{Q:VK}{E:XK}
def Er(h:dP K vs H Q E):ql K (eD9 Q) (start ["value"] vs) H:=by
 obtain⟨i,rfl,q⟩:=h;exists ql;exact q
def cO(K:Frag):Sp:=#[3,∃ i m:Int,vs=[.int i,.int m]/\Q (.bl (decide (1<=i)&&decide (i<=m))) H]
def je(K:Frag):TS:=#[":jG,~sca0eGb(df#1 0b(01"]
theorem vZ(h:cO K vs H Q E):je K (eD9 Q) (start ["value","most"] vs) H:=by
 obtain⟨i,m,rfl,q⟩:=h;exists je;refine⟨i,rfl,⟨true,rfl,iteT ?_⟩⟩;symm
 cases a:decide (1<=i) with
 | false=>
  rw[a,P9]at q;exact iteF q
 | true=>
  rw[a,Qc]at q;exact iteT q
def qm(K:Frag):Sp:=#[3,∃ h w g:Int,vs=[.int h,.int w,.int g]/\FlOk h w g/\∀ p,H p=none->Q (.ref p) (upd H p (.tup [.int h,.int w,.int g]))]
def qo(K:Frag):TS:=#[":goJw,~Qca0adf#6 eXpgoJw,~Qca1adf#6 eXpgomb>bU01df#16 XpgoJw,~Qca2adf#6 eXpjOa0a1a2e"]
def Es(h:qm K vs H Q E):qo K (eD9 Q) (start ["high","wide","signs"] vs) H:=by
 obtain⟨h,w,g,rfl,F,q⟩:=h;obtain⟨h0,h1,a,e,b,d,c⟩:=id F;ac_nf;unfold qo;rw[ax,az];exists⟨h,6,rfl,⟨_,rfl,?_⟩⟩;rw[P4 h0,P4 h1,Uc];refine iteF ?_;rw[az];exists⟨w,6,rfl,⟨_,rfl,?_⟩⟩;rw[P4 a,P4 e,Uc];refine iteF ?_;rw[az];exists⟨pw h0 h1,?_⟩;rw[P3 (show ¬ (16:Int)<h*w by omega)];refine iteF ?_;rw[az];exists⟨g,6,rfl,⟨_,rfl,?_⟩⟩;rw[P4 d,P4 c,Uc];refine iteF ?_;exists⟨lnR rfl,q⟩
def jU(K:Frag):Sp:=#[3,∃ p h w g,vs=[.ref p]/\IsFl H p h w g/\FlOk h w g/\∀ p,H p=none->Q (.ref p) (upd H p (.tup [.int h,.int w,.int g]))]
def jV(K:Frag):TS:=#[":goBJwn/a0ad-'eembEcnxa0edf#3 Xpj,{jcabi0df#0 abi0df#1 abi0df#2 e"]
def xw(h:jU K vs H Q E):jV K (eD9 Q) (start ["floor"] vs) H:=by
 obtain⟨p,h,w,g,rfl,a,F,q⟩:=h;ac_nf;unfold jV;rw[ax,az];exists Cu a ?_;symm;rw[Co a,show(([V.int h,V.int w,V.int g]:List V).length:Int)=3 from rfl];exists ixT a (v:=V.int h) rfl ?_;exists ixT a (v:=V.int w) rfl ?_;exists ixT a (v:=V.int g) rfl ?_;exists⟨h,w,g,rfl,F,q⟩
def ng(K:Frag)(c:Uk):Sp:=#[3,∃ p a h w g PP,vs=[.ref p,.ref a]/\IsFl H p h w g/\H a=↥((PP.map RR.txt).map V.str)/\yL c h w g PP/\
 ∀ l rs b,Same H b->H l=none->IsRules b c p l rs PP->Q (.ref l) b]
def nh(K:Frag)(c:Uk):TS:=#[":gomb>nxa1edf#12 Xpjz&--0 yc1h#1 H,{kcka2a1e"]
def Bu(h:ng K c vs H Q E):nh K c (eD9 Q) (start ["floor","lines"] vs) H:=by
 obtain⟨p,a,h,w,g,PP,rfl,P,C,O,q⟩:=h;have T:=O.n;ac_nf;unfold nh;rw[ax,az];symm;rw[aO C,P0,P0];symm;rw[P3 (show ¬ (12:Int) < (PP.length:Nat) by omega)];refine iteF ?_;exists⟨⟨_,Qh C⟩,?_⟩
 refine uj (xs:=(PP.map RR.txt).map V.str) (λl i σ t=>(∃ D,σ=[none,D,↑p])/\Same H t/\∃ rs:List Addr,t l=↥(rs.map V.ref)/\rs.length=i/\∀(j:Nat) (r:Addr) (x:RR),rs[j]? =some r->PP[j]? =some x->IsRule t c x.k r p x.ws x.cs x.n x.m)
  (λl o=>⟨⟨none,rfl⟩,(P2 H).laid o,[],by rw[ai];rfl,rfl,λj r x e=>by simp at e⟩) (λl i σ t _ _ x=>x.2.1.seq (Qh C)) ?_ ?_
 . rintro l i x σ A o f ⟨⟨D,rfl⟩,u,rs,d,v,b⟩;rw[P5,P5]at f
   cases e:PP[i]? with
   | none=>rw[e]at f;cases f
   | some y=>
    rw[e]at f;cases f;have S:=(P8.mp e).1;have G:=Qi e;rw[aP];show tTrue [none,some (.str y.txt),↑p] A _;exists⟨y.k,p,h,w,g,y.n,y.m,y.ns,y.cs,rfl,u _ _ P,O.F,O.ok y G,O.c y G,λr U s I N=>?_⟩;have J:r≠l:=λz=>by rw[z,d]at I;cases I
    refine⟨_,s _ _ d,by rw[P0];exact aL #[0],⟨_,rfl⟩,(u.trans s).own o,rs++[r],by rw[ai];simp,by simp[v],λj R M h1 h2=>?_⟩;by_cases L:j<rs.length
    . rw[QM L]at h1;exact((b j R M h1 h2).same s).lst (s _ _ d)
    . rw[QS #[0]]at h1
      have B:j-rs.length=0:=by
       have:=(P8.mp h1).1;simp at this;omega
      rw[B]at h1;have:j=i:=by omega
      subst this;rw[e]at h2;simp at h1;cases h2;subst h1;exact N.lst (s _ _ d)
 . rintro l σ A o ⟨_,u,rs,d,v,b⟩;exact q l rs A u o ⟨d,by rw[v];simp,b⟩
def filB(a g:Int)(n:Nat)(xs:∅):Bool:=decide (xs.length=n)&&xs.all λx=>decide (a<=x)&&decide (x<=g)
def ni(K:Frag):Sp:=#[3,∃ p a h w g b xs,vs=[.ref p,.ref a,.int b]/\IsFl H p h w g/\FlOk h w g/\H a=↥(xs.map V.int)/\xs.length<=100/\∀ c,Same H c->Q (.bl (filB b g (h*w).toNat xs)) c]
def nj(K:Frag):TS:=#[":goBJwn/a1ad-QembEcnxa1e,~uca0ejdFCpjn~aaz&--02 yc1h#1 HG,~sca1eGb(31b(1bi2df#2 e"]
def Bv(h:ni K vs H Q E):nj K (eD9 Q) (start ["floor","filling","least"] vs) H:=by
 obtain⟨p,a,h,w,g,b,xs,rfl,m,F,f,D,q⟩:=h;obtain⟨h0,h1,J,C,s,I,G⟩:=id F;have r:0<=h*w:=Rw #[0] #[0];ac_nf;unfold nj;rw[ax,az];exists yz f ?_;symm;rw[aO f,P0];exists⟨p,h,w,g,rfl,m,h0,h1,?_⟩;symm;unfold filB at q;by_cases n:xs.length=(h*w).toNat
 . rw[P4 (show(xs.length:Int)=h*w by omega)];rw[P4 n]at q;exists⟨⟨_,Qh f⟩,?_⟩;refine bM (xs:=xs.map V.int) (λ_=>true) (λi=>.bl (decide (b<=xs.getD i 0)&&decide (xs.getD i 0<=g))) (by rw[P0];omega) (Qh f) ?_ ?_ ?_
   . intro i x d R k e k1;exact k1 _ (P2 _)
   . intro i x d y k j e k1;obtain⟨z,B,rfl⟩:=bj k;have c:=k1 _ (P2 d);rw[ja B]at c;show tAndV _ _ [none,⇑z,↑p,⇑b] d y;exists⟨z,rfl,⟨true,rfl,iteT ?_⟩⟩;symm
     cases j:decide (b<=z) with
     | false=>
      rw[j,P9]at c;exact iteF c
     | true=>
      rw[j,Qc]at c;refine iteT ?_;exists ixT (e _ _ m) (v:=V.int g) rfl ?_;symm;exact c
   . intro l d A e o
     have t:((List.range (xs.map V.int).length).filter λ_=>true).map (λi=>V.bl (decide (b<=xs.getD i 0)&&decide (xs.getD i 0<=g)))=(xs.map λx=>decide (b<=x)&&decide (x<=g)).map V.bl:=by
      rw[bq,P0];refine Rp λi=>?_;rw[P5,P5,P5];by_cases h:i<xs.length
      . rw[Ra h,P1 h];simp[List.getD,h]
      . rw[Qr (by simpa using h),Qr #[0]];rfl
     rw[t]at o;refine nO o ?_;have u:(xs.map λx=>decide (b<=x)&&decide (x<=g)).all id=xs.all λx=>decide (b<=x)&&decide (x<=g):=by rw[R8];rfl
     rw[u];exact q _ e
 . rw[P3 (show ¬ (xs.length:Int)=h*w by omega)];rw[P3 n]at q;exists q _ (P2 _)
def jW(K:Frag):Sp:=#[3,∃ p a h w g xs,vs=[.ref p,.ref a]/\IsFl H p h w g/\FlOk h w g/\H a=↥(xs.map V.int)/\CluesOk h w g xs/\∀ l b,Same H b->H l=none->b l=↥(xs.map V.int)->Q (.ref l) b]
def jX(K:Frag):TS:=#[":goJw,{lca0a1adf#0 eXpjn+a1e"]
def CluesOk.fil{h w g:Int}{xs:∅}(C:CluesOk h w g xs):filB 0 g (h*w).toNat xs=true:=by
 unfold filB;rw[P4 C.len,Qc,Qj];intro x a;have:=C.ok x a;simp[this.1,this.2]
def xx(h:jW K vs H Q E):jX K (eD9 Q) (start ["floor","clues"] vs) H:=by
 obtain⟨p,a,h,w,g,xs,rfl,f,F,d,C,q⟩:=h;obtain⟨h0,h1,i,n,e,m,k⟩:=id F;ac_nf;unfold jX;rw[ax,az];exists⟨p,a,h,w,g,0,xs,rfl,f,F,d,by have:=C.len;omega,λj b=>?_⟩;rw[C.fil];refine⟨true,rfl,iteF ?_⟩;exists iF (b _ _ d) λl c=>?_;exact q l _ (b.laid c) (b.free c) ai
def IsRule.ins{k:RK}{r a:Addr}{g:List (List Nat)}{n m:Int}{C dx:Addr}{f:List (Str × V)}(x:IsRule H c k r p g cs n m)(b:H a=some (.ins C dx f))(h:f.length≠5):IsRule (upd H a o) c k r p g cs n m:=by
 obtain⟨d,W,i,h1,h2,h3⟩:=x.ex;refine⟨x.ok,d,W,i,?_,?_,?_⟩
 . rw[ap (λe=>by rw[e,b]at h1;cases h1;exact h rfl)];exact h1
 . rw[ap (λe=>by rw[e,b]at h2;cases h2)];exact h2
 . rw[ap (λe=>by rw[e,b]at h3;cases h3)];exact h3
def IsRules.ins{L a:Addr}{C dx:Addr}{d:List (Str × V)}(x:IsRules H c p L rs PP)(b:H a=some (.ins C dx d))(f:d.length≠5):IsRules (upd H a o) c p L rs PP:=
 ⟨by rw[ap (λe=>by have:=x.top;rw[e,b]at this;cases this)];exact x.top,x.len,λi r y h1 h2=>(x.at_ i r y h1 h2).ins b f⟩
def du(K:Frag)(c:Uk)(d:Ul):Sp:=#[3,∃ x f p a b h w g PP cl,vs=[.ref x,.ref p,.ref a,.ref b]/\d.ok .Puzzle=true/\H x=some (.ins (d.A .Puzzle) f [])/\IsFl H p h w g/\H a=↥((PP.map RR.txt).map V.str)/\H b=↥(cl.map V.int)/\yL c h w g PP/\CluesOk h w g cl/\
 ∀ L G e,(∀ y o,y≠x->H y=some o->e y=some o)->H L=none->H G=none->IsPz e c d x L G h w g PP cl->Q .non e]
def iI(K:Frag)(c:Uk)(d:Ul):TS:=#[":g~et0,{mca1e~fg~et0,{nckaVt0~fa2e'E~et0,{ocaVt0~fa3e'F"]
def uz(h:du K c d vs H Q E):iI K c d (eD9 Q) (start ["self","floor","lines","clues"] vs) H:=by
 obtain⟨x,i,p,a,b,h,w,g,PP,cl,rfl,t,N,hp,Z,S,R,C,q⟩:=h;ac_nf;unfold iI sFldK;exists⟨p,h,w,g,rfl,hp,R.F,λf I=>?_⟩;have n:x≠f:=aD N I;refine⟨x,.Puzzle,i,[],rfl,t,by rw[ap n];exact N,by show(0:Nat)<1000;decide,?_⟩
 have f1:∀ y o,y≠x->H y=some o->(upd (upd H f (.tup [.int h,.int w,.int g])) x (.ins (d.A .Puzzle) i (putF "floor" (.ref f) []))) y=some o:=λy o s e=>by
  rw[ap s,ap (aD e I)];exact e
 have m:(upd (upd H f (.tup [.int h,.int w,.int g])) x (.ins (d.A .Puzzle) i (putF "floor" (.ref f) []))) x=some (.ins (d.A .Puzzle) i [("floor",.ref f)]):=ai
 have r:IsFl (upd (upd H f (.tup [.int h,.int w,.int g])) x (.ins (d.A .Puzzle) i (putF "floor" (.ref f) []))) f h w g:=by
  show(upd (upd H f (.tup [.int h,.int w,.int g])) x _) f=_;rw[ap n.symm,ai]
 have J:∀ l,(upd (upd H f (.tup [.int h,.int w,.int g])) x (.ins (d.A .Puzzle) i (putF "floor" (.ref f) []))) l=none->H l=none:=λl e=>by
  have T:l≠x:=λz=>by rw[z,ai]at e;cases e
  rw[ap T]at e;have n2:l≠f:=λz=>by rw[z,ai]at e;cases e
  rw[ap n2]at e;exact e
 have P:a≠x:=λz=>by rw[z,N]at Z;cases Z
 have U:b≠x:=λz=>by rw[z,N]at S;cases S
 generalize upd (upd H f (.tup [.int h,.int w,.int g])) x (.ins (d.A .Puzzle) i (putF "floor" (.ref f) []))=H1 at*;refine fldE (c:=d) (k:=.Puzzle) rfl t m (v:=.ref f) (by rfl) ?_;exists⟨f,a,h,w,g,PP,rfl,r,f1 a _ P Z,R,λL rs u M O X=>?_⟩;refine⟨x,.Puzzle,i,_,rfl,t,M _ _ m,by show(1:Nat)<1000;decide,?_⟩;have ab:L≠x:=λz=>by rw[z,m]at O;cases O
 have X3:=X.ins (o:=.ins (d.A .Puzzle) i (putF "laws" (.ref L) [("floor",.ref f)])) (M _ _ m) (by show(1:Nat)≠5;decide)
 have f2:∀ y o,y≠x->H y=some o->(upd u x (.ins (d.A .Puzzle) i (putF "laws" (.ref L) [("floor",.ref f)]))) y=some o:=λy o s e=>by
  rw[ap s];exact M _ _ (f1 y o s e)
 have j:(upd u x (.ins (d.A .Puzzle) i (putF "laws" (.ref L) [("floor",.ref f)]))) x=some (.ins (d.A .Puzzle) i [("floor",.ref f),("laws",.ref L)]):=ai
 have D:IsFl (upd u x (.ins (d.A .Puzzle) i (putF "laws" (.ref L) [("floor",.ref f)]))) f h w g:=by
  show(upd u x _) f=_;rw[ap n.symm];exact M _ _ r
 have W:∀ l,(upd u x (.ins (d.A .Puzzle) i (putF "laws" (.ref L) [("floor",.ref f)]))) l=none->H1 l=none:=λl e=>by
  have T:l≠x:=λz=>by rw[z,ai]at e;cases e
  rw[ap T]at e;exact M.free e
 generalize upd u x (.ins (d.A .Puzzle) i (putF "laws" (.ref L) [("floor",.ref f)]))=H3 at*;refine fldE (c:=d) (k:=.Puzzle) rfl t j (v:=.ref f) (by rfl) ?_;exists⟨f,b,h,w,g,cl,rfl,D,R.F,f2 b _ U S,C,λG H4 B hG eG=>?_⟩;refine⟨x,.Puzzle,i,_,rfl,t,B _ _ j,by show(2:Nat)<1000;decide,?_⟩;have Y:G≠x:=λz=>by rw[z,j]at hG;cases hG
 refine q L G _ (λy o s e=>?_) (J L O) (J G (W G hG)) ⟨t,R,C,?_,i,f,rs,?_,?_,?_⟩
 . rw[ap s];exact B _ _ (f2 y o s e)
 . rw[ap Y];exact eG
 . rw[ai];rfl
 . show(upd H4 x _) f=_;rw[ap n.symm];exact B _ _ D
 . exact(X3.same B).ins (B _ _ j) (by show(2:Nat)≠5;decide)
def Lr {Z:Addr->Hp->Prop} {a b:Addr} {h w g:Int} (B:d.ok .Puzzle=true) (n:IsFl H p h w g) (D:H a=↥((PP.map RR.txt).map V.str)) (r:H b=↥(cl.map V.int)) (R:yL c h w g PP) (C:CluesOk h w g cl)
  (q:∀ P L G f,Same H f->H P=none->H L=none->H G=none->IsPz f c d P L G h w g PP cl->Z P f):
  ∀ x dx,H x=none->H dx=none->dx≠x->du K c d (.ref x::([.ref p,.ref a,.ref b]++[])) (upd (upd H dx (.own x)) x (.ins (d.A .Puzzle) dx [])) (λv m=>v=.non/\Z x m) E0:=by
 intro x dx i u I;have k:∀ y o,H y=some o->(upd (upd H dx (.own x)) x (.ins (d.A .Puzzle) dx [])) y=some o:=λy o e=>by rw[ap (aD e i),ap (aD e u)];exact e
 have j:∀ y,(upd (upd H dx (.own x)) x (.ins (d.A .Puzzle) dx [])) y=none->H y=none:=λy e=>by
  have s:y≠x:=λz=>by rw[z,ai]at e;cases e
  rw[ap s]at e;have E:y≠dx:=λz=>by rw[z,ai]at e;cases e
  rw[ap E]at e;exact e
 exact⟨x,dx,p,a,b,h,w,g,PP,cl,rfl,B,ai,k _ _ n,k _ _ D,k _ _ r,R,C,λL G f l t F X=>⟨rfl,q x L G f (λy o e=>l y o (aD e i) (k _ _ e)) i (j L t) (j G F) X⟩⟩
def jY(K:Frag)(c:Uk)(d:Ul)(_:PzK):Sp:=#[3,∃(P L G:Addr) (h w g:Int) (PP:List RR) (cl:∅),vs=[.ref P]/\IsPz H c d P L G h w g PP cl/\∀ p,IsFl H p h w g->Q (.ref p) H]
def pD(K:Frag)(c:Uk)(d:Ul):Sp:=jY K c d .Puzzle
def kM(K:Frag)(c:Uk)(d:Ul):TS:=#[":jVt0~f"]
def yM(h:pD K c d vs H Q E):kM K c d (eD9 Q) (start ["self"] vs) H:=by
 obtain⟨P,L,G,h,w,g,PP,cl,rfl,x,q⟩:=h;obtain⟨a,p,rs,h1,h2,h3⟩:=x.ex;exists kM;exact fldE (k:=.Puzzle) rfl x.ok h1 (v:=.ref p) (by rfl) (q p h2)
def xy(K:Frag)(c:Uk)(d:Ul)(_:PzK):Sp:=#[3,∃(P L G:Addr) (h w g:Int) (PP:List RR) (cl:∅),vs=[.ref P]/\IsPz H c d P L G h w g PP cl/\∀ l,H l=none->Q (.ref l) (upd H l (.lst (cl.map V.int)))]
def pE(K:Frag)(c:Uk)(d:Ul):Sp:=xy K c d .Puzzle
def kN(K:Frag)(c:Uk)(d:Ul):TS:=#[":jn+aVt0'Fe"]
def yN(h:pE K c d vs H Q E):kN K c d (eD9 Q) (start ["self"] vs) H:=by
 obtain⟨P,L,G,h,w,g,PP,cl,rfl,x,q⟩:=h;obtain⟨a,p,rs,h1,h2,h3⟩:=x.ex;exists kN;refine fldE (k:=.Puzzle) rfl x.ok h1 (v:=.ref G) (by rfl) ?_;exists iF x.gv q
def l8(K:Frag)(c:Uk)(d:Ul)(_:PzK):Sp:=#[3,∃(P L G:Addr) (h w g:Int) (PP:List RR) (cl:∅),vs=[.ref P]/\IsPz H c d P L G h w g PP cl/\∀ l p rs,H l=none->IsFl (upd H l (.lst (rs.map V.ref))) p h w g->IsRules (upd H l (.lst (rs.map V.ref))) c p l rs PP->Q (.ref l) (upd H l (.lst (rs.map V.ref)))]
def pF(K:Frag)(c:Uk)(d:Ul):Sp:=l8 K c d .Puzzle
def kO(K:Frag)(c:Uk)(d:Ul):TS:=#[":jn+aVt0'Ee"]
def yO(h:pF K c d vs H Q E):kO K c d (eD9 Q) (start ["self"] vs) H:=by
 obtain⟨P,L,G,h,w,g,PP,cl,rfl,x,q⟩:=h;obtain⟨e,p,rs,h1,h2,h3⟩:=x.ex;exists kO;refine fldE (k:=.Puzzle) rfl x.ok h1 (v:=.ref L) (by rfl) ?_;exists iF h3.top λl b=>?_;have a:Same H (upd H l (.lst (rs.map V.ref))):=(P2 H).laid b;exact q l p rs b (a _ _ h2) ⟨ai,h3.len,λi r y e1 e2=>(h3.at_ i r y e1 e2).same a⟩
inductive DRows(w:World)(K:Frag):List DictEntry->List (Str × List Str)->Prop
 | nil:DRows w K [] []
 | cons {hsh:Int} {k:Str} {t:Tok} {q:Addr} {o:Obj} {PU:Array Value} {n:Nat} {ws:List Str} {es:List DictEntry} {D:List (Str × List Str)}:hsh=hashStr w k->K.lookup q=some o->o.cls=.type "tuple"->o.data=.seq PU n->PU.size<=sizeLine->Vals (ws.map V.str) PU.toList->DRows w K es D->DRows w K (⟨hsh,.str k t,.ref q⟩::es) ((k,ws)::D)
structure GDict(w:World)(K:Frag)(mg:Str->Option Value)(x:Str)(D:List (Str × List Str)):Prop where
 ex:∃(p:Addr) (o:Obj) (es:Array DictEntry) (ep:Nat),mg x=↑p/\K.lookup p=some o/\o.ExactDict/\o.data=.dict es ep/\DRows w K es.toList D/\(D.map λx=>x.1).Nodup
theorem DRows.of{P:Program}{w:World}{K:Frag}{f:List DictEntry}{D:List (Str × List Str)}(h:DRows w K f D):
  ∃ c:List (Str × Value),Pairs (strKind P w) f c/\c.map (λx=>x.1)=D.map (λx=>x.1)/\(∀ e∈f,∃ k,(strKind P w).is k e.key=true/\e.hash=(strKind P w).hash k)/\
   ∀ k g,D.lookup k=some g->∃ q,valueAt c k=↑q/\∃(o:Obj) (PU:Array Value) (n:Nat),K.lookup q=some o/\o.cls=.type "tuple"/\o.data=.seq PU n/\PU.size<=sizeLine/\Vals (g.map V.str) PU.toList:=by
 induction h with
 | nil=>exact⟨[],.nil,rfl,λe b=>(by cases b),λk g e=>(by cases e)⟩
 | @cons u k t q o PU n g f D h1 h2 h3 h4 h5 h6 _ r=>
  obtain⟨c,l,m,s,v⟩:=r;have j:(strKind P w).is k (.str k t)=true:=by show(k==k)=true;simp
  refine⟨(k,.ref q)::c,.cons j rfl l,by rw[QJ,QJ,m],λe b=>?_,λd i e=>?_⟩
  . rcases Qs.mp b with rfl | b
    . exact⟨k,j,h1⟩
    . exact s e b
  . rw[Q5]at e;unfold valueAt;rw[RJ];by_cases a:d=k
    . subst a;simp at e;subst e;refine⟨q,by simp,o,PU,n,h2,h3,h4,h5,h6⟩
    . have p:(d==k)=false:=by simpa using a
      rw[p]at e;have y:decide (k=d)=false:=P3 (λz=>a z.symm);dsimp only;rw[y];exact v d i e
def tIxG(K:Frag)(D:List (Str × List Str))(c:TE):TE:=λσ H Q=>c σ H λy b=>∃ k a,y=.str k/\D.lookup k=some a/\∀ q,SqT K b q (a.map V.str)->Q (.ref q) b
def rInS(K:Frag):R2:=λx y H Q=>∃(z:Str) (q:Addr) (a:List Str),x=.str z/\y=.ref q/\SqT K H q (a.map V.str)/\Q (.bl (decide (z∈a))) H
section
variable{X:Cx}{a b:Expr}{ta tb:TE}{pos p:Pos}{x:Str}{D:List (Str × List Str)}
def Ls(G:GDict X.w X.K X.mg x D)(S:PE X b tb)(C:Gl X x)(i:z5 b)(g:(x==("__debug__":Str))=false:=by decide):PE X (.Subscript (.Name x p) b pos) (tIxG X.K D tb):=by
 obtain⟨d,o,es,T,h1,h2,h3,h4,h5,h6⟩:=G.ex;obtain⟨W,B,E,p3,L⟩:=h5.of (P:=X.prog)
 have N:IxR X (λx y H Q=>x=.ref d/\∃ k a,y=.str k/\D.lookup k=some a/\∀ q,SqT X.K H q (a.map V.str)->Q (.ref q) H):=by
  intro j l A s σ H x y v u Q I J O h hs;obtain⟨rfl,k,a,rfl,Z,q⟩:=h;cases (show v=Value.ref d from J);have f:s.heap.get? d=some o:=I.kIn d o h2;have r:Heap.DictOf (strKind X.prog X.w) s.heap d W:=⟨o,es,T,f,h3,h4,λe he=>p3 e (Array.mem_toList_iff.mpr he),B,by rw[E];exact h6⟩;obtain⟨m,F,o2,PU,n,U,Y,R,M,g5⟩:=L k a Z;obtain⟨t,rfl⟩:∃ t,u=Value.str k t:=O;have hk:(strKind X.prog X.w).is k (.str k t)=true:=by show(k==k)=true;simp
  refine tail_any r.typeIs Tm.lookup (wpAny_getItem_of hk r.mapOf F ?_) hs;exact⟨.ref m,H,I.tok _,rfl,q m (.inr ⟨o2,PU,n,U,Y,R,M,g5⟩)⟩
 have h0:=yj (pos:=pos) N (bB (pos:=p) (v:=V.ref d) C h1 rfl g) S i;intro A s σ H Q I h;refine h0 A s σ H Q I ?_
 have e:(λ(y:V) (c:Hp)=>∃ k a,y=.str k/\D.lookup k=some a/\∀ q,SqT X.K c q (a.map V.str)->Q (.ref q) c)=λy c=>(V.ref d=V.ref d)/\∃ k a,y=.str k/\D.lookup k=some a/\∀ q,SqT X.K c q (a.map V.str)->Q (.ref q) c:=by
  funext y c;simp
 have z:tb σ H (λ(y:V) (c:Hp)=>∃ k a,y=.str k/\D.lookup k=some a/\∀ q,SqT X.K c q (a.map V.str)->Q (.ref q) c):=h;rw[e]at z;exact z
def Lu:OpR X (compareOp .In) (rInS X.K):=by
 intro e s σ H x y v u Q I d b h;obtain⟨z,q,a,rfl,rfl,c,h⟩:=h;refine ud e s σ H _ _ v u Q I d b ⟨q,a.map V.str,rfl,.inr c,rfl,pA a,?_⟩;rw[sx];exact h
end
section
variable{K:Frag}{σ:St}{H:Hp}{Q:VK}{te:TE}{D:List (Str × List Str)}
def Mb:tIxG K D te σ H Q=te σ H λy b=>∃ k a,y=.str k/\D.lookup k=some a/\∀ q,SqT K b q (a.map V.str)->Q (.ref q) b:=rfl
end
def ws5:String:="ax if_true if_false Bool.false_eq_true decide_true decide_false db dc gG bY bK c9 d7 da bX d4 d6 bW gE bZ b4 b6 b7 b8 b9 b5 d8 d9 eh dZ gF Bool.not_true Bool.not_false ax "++ws1
local macro_rules|`(tactic|walk_at "w")=>wk9 ws5
def stB(m s:Int):Bool:=decide (1<=s)&&(decide (s<=((Builtin.Int.intBits m:Nat):Int))&&decide (m/2^(s-1).toNat%2=1))
def gC(K:Frag):Sp:=#[3,∃ m s:Int,vs=[.int m,.int s]/\Q (.bl (stB m s)) H]
def uA(K:Frag):TS:=#[":jGb(df#1 1Gb(1'fc'd'G0bscbAb~R0bI1df#1 df#2 df#1 "]
variable{K:Frag}{vs:List V}{H:Hp}{Q:VK}{E:XK}
theorem HA(h:gC K vs H Q E):uA K (eD9 Q) (start ["mask","sign"] vs) H:=by
 obtain⟨m,s,rfl,q⟩:=h;exists uA;unfold stB at q
 cases h1:decide (1<=s) with
 | false=>rw[h1,P9]at q;exact iteF q
 | true=>
  refine iteT ⟨rfl,?_⟩;symm;rw[h1,Qc]at q
  cases h2:decide (s<=((Builtin.Int.intBits m:Nat):Int)) with
  | false=>rw[h2,P9]at q;exact iteF q
  | true=>
   rw[h2,Qc]at q;exact iteT ⟨by have:=Qw h1;omega,by decide,q⟩
def pG(K:Frag):Sp:=#[3,∃ s:Int,vs=[.int s]/\1<=s/\s<=100000/\Q (.int (2^(s-1).toNat)) H]
def uB(K:Frag):TS:=#[":gldf#1 h#1 gT*abI0df#1 eh#2 lbU1df#2 h#1 j1"]
def HB(h:pG K vs H Q E):uB K (eD9 Q) (start ["sign","bit","step"] vs) H:=by
 obtain⟨s,rfl,h1,h2,q⟩:=h;exists uB;refine⟨s-1,rfl,by omega,by omega,?_⟩;refine mQ (λi σ a=>∃ b:Option V,σ=[⇑s,⇑(2^i),b]/\a=H) ⟨none,rfl,rfl⟩ ?_ ?_
 . rintro i σ a c ⟨b,rfl,rfl⟩;exists⟨.inr ⟨by decide,by decide⟩,?_⟩;simp[Int.pow_succ]
 . rintro σ a ⟨b,rfl,rfl⟩;symm;exact q
def woI(m s:Int):Int:=if stB m s=true then m-2^(s-1).toNat else m
def nV(K:Frag):Sp:=#[3,∃ m s:Int,vs=[.int m,.int s]/\s<=100000/\Q (.int (woI m s)) H]
def sF(K:Frag):TS:=#[":j~mw,~tca0a1ebI0,'Hca1e0"]
theorem FW(h:nV K vs H Q E):sF K (eD9 Q) (start ["mask","sign"] vs) H:=by
 obtain⟨m,s,rfl,h2,q⟩:=h;exists sF;refine⟨m,s,rfl,_,rfl,?_⟩;unfold woI at q
 cases a:stB m s with
 | false=>
  rw[a,Qp P7]at q;exact iteF q
 | true=>
  rw[a,Qt rfl]at q;refine iteT ⟨s,rfl,?_,h2,?_⟩
  . unfold stB at a;rw[Qy,P6]at a;exact a.1
  . symm;exact q
def g7(K:Frag):Sp:=#[3,∃ m s:Int,vs=[.int m,.int s]/\s<=100000/\Q (.bl (decide (woI m s=0))) H]
def qp(K:Frag):TS:=#[":jbsc,'Ica0a1edf#0 "]
def Et(h:g7 K vs H Q E):qp K (eD9 Q) (start ["mask","sign"] vs) H:=by
 obtain⟨m,s,rfl,h2,q⟩:=h;exists qp;refine⟨m,s,rfl,h2,?_⟩;symm;exact q
def sgL(m:Int):∅:=((List.range (Builtin.Int.intBits m)).filter λ(i:Nat)=>stB m (1+(i:Int))).map λ(i:Nat)=>1+(i:Int)
def dm(K:Frag):Sp:=#[3,∃ m:Int,vs=[.int m]/\Builtin.Int.intBits m<=900/\∀ l a,Same H a->H l=none->a l=↥((sgL m).map V.int)->Q (.ref l) a]
def qq(K:Frag):TS:=#[":jz&--0 'gadf#1 abv'fc'd'G0df#1 eh#1 w,~tca2a1e1"]
def Eu(h:dm K vs H Q E):qq K (eD9 Q) (start ["mask"] vs) H:=by
 obtain⟨m,rfl,c,k⟩:=h;exists qq;refine⟨rfl,1,_,rfl,by omega,?_⟩;have f:(((Builtin.Int.intBits m:Nat):Int)+1-1).toNat=Builtin.Int.intBits m:=by omega
 rw[f];refine fV (λ(i:Nat)=>stB m (1+(i:Int))) (λ(i:Nat)=>1+(i:Int)) c ?_ ?_ ?_
 . intro i a R d b k1;show tB _ [none,⇑(1+(i:Int)),⇑m] a R;exists⟨m,_,rfl,_,rfl,k1 _ (P2 _)⟩
 . intro i a j d c b k1;exact k1 _ (P2 _)
 . intro l a e b g;exact k l a b e g
local macro_rules|`(tactic|walk_at "w")=>wk9 ws4
inductive TK where
 | clue | only | place | count | step | sum | square | reach | turn | pair | ways
 deriving DecidableEq
def tkC:TK->List Nat
 | .clue=>[99,108,117,101]
 | .only=>[111,110,108,121]
 | .place=>[112,108,97,99,101]
 | .count=>[99,111,117,110,116]
 | .step=>[115,116,101,112]
 | .sum=>[115,117,109]
 | .square=>[115,113,117,97,114,101]
 | .reach=>[114,101,97,99,104]
 | .turn=>[116,117,114,110]
 | .pair=>[112,97,105,114]
 | .ways=>[119,97,121,115]
def sG:List Str:=[tx [99,108,117,101],tx [111,110,108,121],tx [112,108,97,99,101],tx [99,111,117,110,116],tx [115,116,101,112],tx [115,117,109],tx [115,113,117,97,114,101],tx [114,101,97,99,104],tx [116,117,114,110],tx [112,97,105,114],tx [119,97,121,115]]
def jK:List Str:=[tx [99,108,117,101],tx [111,110,108,121],tx [112,108,97,99,101],tx [115,116,101,112],tx [112,97,105,114]]
def iA:List Str:=[tx [99,111,117,110,116],tx [115,117,109],tx [119,97,121,115]]
def gd_RULES_OF_KIND:List (Str × List Str):=[(tx [111,110,108,121],[tx [117,110,108,105,107,101]]),(tx [112,108,97,99,101],[tx [117,110,108,105,107,101]]),(tx [99,111,117,110,116],[tx [99,111,117,110,116]]),(tx [115,116,101,112],[tx [114,105,115,105,110,103]]),(tx [115,117,109],[tx [115,117,109]]),(tx [115,113,117,97,114,101],[tx [110,111,115,113,117,97,114,101]]),(tx [114,101,97,99,104],[tx [106,111,105,110,101,100],tx [114,105,110,103]]),(tx [116,117,114,110],[tx [114,105,110,103]]),(tx [112,97,105,114],[tx [117,110,108,105,107,101]])]
def wsOf:TK->List Str
 | .only=>[tx [117,110,108,105,107,101]]
 | .place=>[tx [117,110,108,105,107,101]]
 | .count=>[tx [99,111,117,110,116]]
 | .step=>[tx [114,105,115,105,110,103]]
 | .sum=>[tx [115,117,109]]
 | .square=>[tx [110,111,115,113,117,97,114,101]]
 | .reach=>[tx [106,111,105,110,101,100],tx [114,105,110,103]]
 | .turn=>[tx [114,105,110,103]]
 | .pair=>[tx [117,110,108,105,107,101]]
 | _=>[]
def goesB:TK->RK->Bool
 | .ways,_=>true
 | .only,.Unlike=>true
 | .place,.Unlike=>true
 | .count,.Count=>true
 | .step,.Rising=>true
 | .sum,.Sum=>true
 | .square,.NoSquare=>true
 | .reach,.Joined=>true
 | .reach,.Ring=>true
 | .turn,.Ring=>true
 | .pair,.Unlike=>true
 | _,_=>false
def lineK:TK->Bool
 | .clue=>true
 | .only=>true
 | .place=>true
 | .step=>true
 | .pair=>true
 | _=>false
def nbrK:TK->Bool
 | .count=>true
 | .sum=>true
 | .ways=>true
 | _=>false
def I0(t:TK):decide (tx (tkC t)∈sG)=true:=by cases t <;> decide+kernel
def J6(t:TK):decide (tx (tkC t)∈jK)=lineK t:=by cases t <;> decide+kernel
def Lv(t:TK):decide (tx (tkC t)∈iA)=nbrK t:=by cases t <;> decide+kernel
variable{t:TK}
def Mc(h1:t≠.clue)(h2:t≠.ways):gd_RULES_OF_KIND.lookup (tx (tkC t))=some (wsOf t):=by
 cases t <;> first | exact absurd rfl h1 | exact absurd rfl h2 | decide+kernel
def J7(h2:t≠.ways)(k:RK):decide (tx (nmC k)∈wsOf t)=goesB t k:=by
 cases t <;> first | exact absurd rfl h2 | (cases k <;> decide+kernel)
def J8(t:TK):decide (tkC t=[119,97,121,115])=decide (t=.ways):=by cases t <;> decide
def Fc(t:TK):decide (tkC t=[99,108,117,101])=decide (t=.clue):=by cases t <;> decide
def J9(t:TK):decide (tkC t=[111,110,108,121])=decide (t=.only):=by cases t <;> decide
def kP(K:Frag):Sp:=#[3,∃ p h w g i,vs=[.ref p,.int i]/\IsFl H p h w g/\FlOk h w g/\Q (.bl (decide (0<=i)&&decide (i<h*w))) H]
def sH(K:Frag):TS:=#[":jG,~sca1eGb(df#0 1b<1,~uca0e"]
variable{K:Frag}{vs:List V}{H:Hp}{Q:VK}{E:XK}
theorem FX(h:kP K vs H Q E):sH K (eD9 Q) (start ["floor","value"] vs) H:=by
 obtain⟨p,h,w,g,i,rfl,b,F,q⟩:=h;exists sH;refine⟨i,rfl,⟨true,rfl,iteT ?_⟩⟩;symm
 cases a:decide (0<=i) with
 | false=>
  rw[a,P9]at q;exact iteF q
 | true=>
  rw[a,Qc]at q;refine iteT ?_;exists⟨p,h,w,g,rfl,b,F.h0,F.h1,?_⟩;symm;exact q
def kQ(K:Frag):Sp:=#[3,∃ p h w g i,vs=[.ref p,.int i]/\IsFl H p h w g/\Q (.bl (decide (1<=i)&&decide (i<=g))) H]
def sI(K:Frag):TS:=#[":j,~Qca1abi0df#2 e"]
def FY(h:kQ K vs H Q E):sI K (eD9 Q) (start ["floor","value"] vs) H:=by
 obtain⟨p,h,w,g,i,rfl,a,q⟩:=h;exists sI;refine ixT a (v:=V.int g) rfl ?_;exists⟨i,g,rfl,q⟩
def sJ(K:Frag)(c:Uk):Sp:=#[3,∃ t k r p a cs n m,vs=[.str (tx (tkC t)),.ref r]/\t≠.clue/\IsRule H c k r p (nmC k::a) cs n m/\Q (.bl (goesB t k)) H]
def sK(K:Frag)(c:Uk):TS:=#[":j~Absc0dqr`0b{pcDkK{q{rck1e{sc{t0",[119,97,121,115]]
variable{c:Uk}
def FZ(h:sJ K c vs H Q E):sK K c (eD9 Q) (start ["kind","rule"] vs) H:=by
 obtain⟨t,k,r,p,f,cs,n,m,rfl,e,x,q⟩:=h;obtain⟨g,W,C,h1,h2,h3⟩:=x.ex;exists sK;rw[dJ,J8];by_cases a:t=.ways
 . subst a;rw[P4 rfl];exact iteT q
 . rw[P3 a];refine iteF ?_;refine methE (k:=k) rfl x.ok h1 (by rfl) ?_;exists⟨r,p,nmC k,f,cs,n,m,rfl,x,?_⟩;dsimp only;rw[Mb];exists⟨_,_,rfl,Mc e a,λb d=>?_⟩;refine⟨_,b,_,rfl,rfl,d,?_⟩;rw[J7 a];exact q
def fO(K:Frag)(c:Uk):Sp:=#[3,∃ k r p b cs n m z,vs=[.ref r,.int z]/\IsRule H c k r p b cs n m/\cs.length<=63/\∀ l a,Same H a->H l=none->a l=↥((cs.filter λx=>!decide (x=z)).map V.int)->Q (.ref l) a]
def uC(K:Frag)(c:Uk):TS:=#[":jz&--1 ycDkK~B~Cck0eh#1 mbEc121"]
def HC(h:fO K c vs H Q E):uC K c (eD9 Q) (start ["rule","cell"] vs) H:=by
 obtain⟨k,r,p,t,cs,n,m,z,rfl,x,w,q⟩:=h;obtain⟨u,W,C,h1,h2,h3⟩:=x.ex;ac_nf;unfold uC;rw[cH,bE];refine methE (k:=k) rfl x.ok h1 (by rfl) ?_;exists⟨r,p,t,cs,n,m,rfl,x,λl s=>?_⟩;obtain⟨A,g,e,f⟩:=aU (.lst (cs.map V.int)) s;rw[g];refine⟨l,rfl,⟨_,Qh f⟩,?_⟩;refine bc (xs:=cs) (λx=>!decide (x=z)) (λx=>x) #[0] (Qh f) ?_ ?_ ?_
 . intro y a R i b k2;show tTest _ [none,⇑y,⇑z] a R;exists k2 _ (P2 _)
 . intro y a j i v b k2;show tVar 1 [none,⇑y,⇑z] a j;exists k2 _ (P2 _)
 . intro T a o b d;rw[Rz]at d;exact q T a (e.trans b) (e.free o) d
def hitB(t:TK)(PP:List RR)(r z:Int):Bool:=if r<0 then false else if t=.clue then decide (r=0) else match PP[r.toNat]? with
 | none=>false
 | some x=>goesB t x.k&&decide (z∈x.cs)
def kR(K:Frag)(c:Uk)(d:Ul):Sp:=#[3,∃ t P L G h w g r z PP cl,vs=[.ref P,.str (tx (tkC t)),.int r,.int z]/\IsPz H c d P L G h w g PP cl/\∀ a,Same H a->Q (.bl (hitB t PP r z)) a]
def kS(K:Frag)(c:Uk)(d:Ul):TS:=#[":goBJw,~sca2emb<2df#0 jdFCpgombsc1dqr`0jbsc2df#0 pglDt;~S~Tckt0eh#4 gomb)2nxa4ejdFCpjG,{ucka1abi42ebNcC3DkK~B~Cckbi42e",[99,108,117,101]]
def RR.ws_cons(r:RR):∃ t,r.ws=nmC r.k::t:=⟨_,rfl⟩
variable{d:Ul}
theorem yP(h:kR K c d vs H Q E):kS K c d (eD9 Q) (start ["puzzle","kind","number","cell","rules"] vs) H:=by
 obtain⟨t,P,L,G,h,w,g,r,z,PP,cl,rfl,x,q⟩:=h;obtain⟨Z,p,rs,h1,h2,h3⟩:=x.ex;have hN:=x.R.F.m;ac_nf;unfold kS;rw[ax,az];exists⟨r,rfl,⟨true,rfl,iteF ?_⟩⟩;symm;unfold hitB at q;by_cases n:r<0
 . rw[Qt n]at q;rw[P4 n];exact iteT (q _ (P2 _))
 rw[Qp n]at q;rw[P3 n];refine iteF ?_;rw[az];symm;rw[dJ,Fc];by_cases b:t=.clue
 . rw[Qt b]at q;rw[P4 b];exact iteT (q _ (P2 _))
 rw[Qp b]at q;rw[P3 b];refine iteF ?_;refine methE (k:=.Puzzle) rfl x.ok h1 (by rfl) ?_;exists⟨P,L,G,h,w,g,PP,cl,rfl,x,λl A a N O X=>?_⟩;have u:Same H (upd H l (.lst (a.map V.ref))):=(P2 H).laid N;generalize upd H l (.lst (a.map V.ref))=H1 at*;have D:=X.len;symm;rw[az];symm;rw[aO X.top,P0,D];symm;by_cases f:(PP.length:Int)<=r
 . rw[P4 f];have e:PP[r.toNat]? =none:=Qr #[0];rw[e]at q;exact iteT (q _ u)
 rw[P3 f];have s:r.toNat<PP.length:=by omega
 have B:PP[r.toNat]? =some PP[r.toNat]:=P1 s;rw[B]at q;have C:a[r.toNat]? =some a[r.toNat]:=P1 #[0];have j:=X.at_ _ _ _ C B;obtain⟨I,v⟩:=RR.ws_cons PP[r.toNat];rw[v]at j;have i:atI (a.map V.ref) r=some (V.ref a[r.toNat]):=so #[0] C;refine iteF ?_;refine ixL X.top i ?_;exists⟨t,_,_,A,I,_,_,_,rfl,b,j,?_⟩;dsimp only at q
 cases y:goesB t PP[r.toNat].k with
 | false=>
  rw[y,P9]at q;exact⟨false,rfl,iteF (q _ u)⟩
 | true=>
  rw[y,Qc]at q;refine⟨true,rfl,iteT ?_⟩;unfold aM;symm;obtain⟨o,W1,C1,M,Y,W⟩:=j.ex;refine ixL X.top i ?_;refine⟨_,PP[r.toNat].k,o,_,rfl,j.ok,M,by rfl,?_⟩;refine⟨_,A,_,_,_,_,rfl,j,λS J=>?_⟩;have T:Same H1 (upd H1 S (.lst (PP[r.toNat].cs.map V.int))):=(P2 H1).laid J;have U:(upd H1 S (.lst (PP[r.toNat].cs.map V.int))) S=↥(PP[r.toNat].cs.map V.int):=ai;dsimp only;rw[ot U];exact q _ (u.trans T)
structure IsTh(H:Hp)(T M:Addr)(t:TK)(r z s:Int)(ms:∅):Prop where
 T:H T=some (.tup [.str (tx (tkC t)),.int r,.int z,.int s,.ref M])
 M:H M=↥(ms.map V.int)
 n:ms.length<=100
variable{r z s:Int}{ms:∅}
def IsTh.same{a:Hp}{T M:Addr}(x:IsTh H T M t r z s ms)(s':Same H a):IsTh a T M t r z s ms:=⟨s' _ _ x.T,s' _ _ x.M,x.n⟩
def formB(h w g:Int)(PP:List RR)(t:TK)(r z s:Int):Bool:=(decide (0<=z)&&decide (z<h*w))&&((decide (1<=s)&&decide (s<=g))&&hitB t PP r z)
def oP(K:Frag)(c:Uk)(d:Ul):Sp:=#[3,∃ t P L G T M h w g r z s PP cl ms,vs=[.ref P,.ref T]/\IsPz H c d P L G h w g PP cl/\IsTh H T M t r z s ms/\∀ a,Same H a->Q (.bl (formB h w g PP t r z s)) a]
def kT(K:Frag)(c:Uk)(d:Ul):TS:=#[":jGn/abi1df#4 ad-Qen~aaz&-- ycbi1df#4 h#1 H,~sca1ee"]
def oQ(K:Frag)(c:Uk)(d:Ul):TS:=#[":goBJwn/a1ad-'eeBmbEcnxa1edf#5 w~r{vPbi1df#0 jdFCpglDt;~D~Eckt0eh#2 goBJw,'hca2abi1df#2 eJw,'ica2abi1df#3 ejdFCpgoJw,{wckta0abi1df#0 abi1df#1 abi1df#2 ejdFCp{xckt"]
def yQ{P T M:Addr}{m:Option V}(x:IsTh H T M t r z s ms)(q:∀ h,Same H h->Q (.bl true) h):
  kT K c d (eD9 Q) [↑P,↑T,m] H:=by
 have w:=x.n;unfold kT;exists ixT x.T (v:=V.ref M) rfl ?_;exists yz x.M ?_;exists ixT x.T (v:=V.ref M) rfl ?_;exists⟨⟨_,Qh x.M⟩,?_⟩;refine bM (xs:=ms.map V.int) (λ_=>true) (λ_=>.bl true) (by rw[P0];omega) (Qh x.M) ?_ ?_ ?_
 . intro i y e R f a k1;exact k1 _ (P2 _)
 . intro i y e p f g a k1;obtain⟨v,u,rfl⟩:=bj f;show tCall _ _ _ _ [none,⇑v] e p;exists⟨v,rfl,k1 _ (P2 _)⟩
 . intro l e A a j
   have o:((List.range (ms.map V.int).length).filter λ_=>true).map (λ_=>V.bl true)=(List.replicate (ms.map V.int).length true).map V.bl:=by
    rw[bq,List.map_const',QU,Ti]
   rw[o]at j;refine nO j ?_
   have k:(List.replicate (ms.map V.int).length true).all id=true:=by
    rw[Qj];intro b g;exact(Tj.mp g).2
   rw[k];exact q _ a
theorem CO(h:oP K c d vs H Q E):oQ K c d (eD9 Q) (start ["puzzle","thought","floor"] vs) H:=by
 obtain⟨t,P,L,G,T,M,h,w,g,r,z,s,PP,cl,ms,rfl,x,y,q⟩:=h;obtain⟨n,p,rs,h1,h2,h3⟩:=x.ex;ac_nf;unfold oQ;rw[ax,az];exists Cu y.T ?_;symm;rw[Co y.T,show(([.str (tx (tkC t)),.int r,.int z,.int s,.ref M]:List V).length:Int)=5 from rfl];exists ixT y.T (v:=V.str (tx (tkC t))) rfl ?_;symm;rw[I0];exists methE (k:=.Puzzle) rfl x.ok h1 (by rfl) ?_;exists⟨P,L,G,h,w,g,PP,cl,rfl,x,λi b=>?_⟩;symm;rw[az];exists ixT y.T (v:=V.int z) rfl ?_;exists⟨i,h,w,g,z,rfl,b,x.R.F,?_⟩;unfold formB at q
 cases j:(decide (0<=z)&&decide (z<h*w)) with
 | false=>
  rw[j,P9]at q;exact⟨false,rfl,iteT (q _ (P2 _))⟩
 | true=>
  rw[j,Qc]at q;refine⟨true,rfl,iteF ?_⟩;refine ixT y.T (v:=V.int s) rfl ?_;exists⟨i,h,w,g,s,rfl,b,?_⟩
  cases e:(decide (1<=s)&&decide (s<=g)) with
  | false=>
   rw[e,P9]at q;exact⟨false,rfl,iteT (q _ (P2 _))⟩
  | true=>
   rw[e,Qc]at q;refine⟨true,rfl,iteF ?_⟩;rw[az];exists ixT y.T (v:=V.str (tx (tkC t))) rfl ?_;exists ixT y.T (v:=V.int r) rfl ?_;exists ixT y.T (v:=V.int z) rfl ?_;exists⟨t,P,L,G,h,w,g,r,z,PP,cl,rfl,x,λo f=>?_⟩
   cases a:hitB t PP r z with
   | false=>
    rw[a]at q;exact⟨false,rfl,iteT (q _ f)⟩
   | true=>
    rw[a]at q;refine⟨true,rfl,iteF ?_⟩;exact yQ (y.same f) λm l=>q m (f.trans l)
def HD{k:RK}{h w g:Int}{m:Nat}(b:allK k=true)(k0:k≠.Rule)(i:numK k=false)(a:sgnK k=true)(d:1<=(m:Int))(c:(m:Int)<=g):RR.Ok ⟨k,0,m,[],rngL 0 (h*w)⟩ h w g:=by
 refine⟨k0,QI _,λ_=>rfl,λ_=>⟨d,c⟩,λe=>?_,⟨λe=>?_,λ_=>⟨rfl,rfl⟩⟩,λx f=>(by cases f),QI _⟩
 . rw[show sgnK k=false from e]at a;cases a
 . rw[show allK k=false from e]at b;cases b
def clueB(cl:∅)(z s:Int)(ms:∅):Bool:=decide (ms=[])&&(!decide (cl.getD z.toNat 0=0)&&!decide (cl.getD z.toNat 0=s))
def kU(K:Frag):Sp:=#[3,∃ C M z s cl ms,vs=[.ref C,.int z,.int s,.ref M]/\H C=↥(cl.map V.int)/\0<=z/\z<cl.length/\H M=↥(ms.map V.int)/\∀ a,Same H a->Q (.bl (clueB cl z s ms)) a]
def kW(K:Frag):TS:=#[":jGbsc3ueGbEcbi01df#0 bEcbi012"]
theorem yR(h:kU K vs H Q E):kW K (eD9 Q) (start ["clues","cell","sign","more"] vs) H:=by
 obtain⟨C,M,z,s,cl,ms,rfl,f,e,c,g,q⟩:=h;exists kW;refine⟨aQ #[1],λl i=>?_⟩;obtain⟨H1,z9,s1,el⟩:∃ z,upd H l (.lst [])=z/\Same H z/\z l=↥(([]:∅).map V.int):=aU _ i;rw[z9];refine pr (s1 _ _ g) el ?_;have a:=q _ s1;unfold clueB at a
 cases d:decide (ms=[]) with
 | false=>
  rw[d,P9]at a;exact⟨false,rfl,iteF a⟩
 | true=>
  rw[d,Qc]at a;refine⟨true,rfl,iteT ?_⟩;exists ixI (s1 _ _ f) e c ?_;symm
  cases b:decide (cl.getD z.toNat 0=0) with
  | true=>
   rw[b,RH,P9]at a;exact iteF a
  | false=>
   rw[b,Sg,Qc]at a;refine iteT ?_;refine ixI (s1 _ _ f) e c ?_;symm;exact a
def onlyB(cs a:∅)(z s:Int)(ms:∅):Bool:=decide (ms.length=1)&&(decide (ms.getD 0 0∈cs.filter λx=>!decide (x=z))&&decide (woI (a.getD (ms.getD 0 0).toNat 0) s=0))
def kX(K:Frag)(c:Uk):Sp:=#[3,∃ k r p A M d cs a ms n m z s,vs=[.ref r,.ref A,.int z,.int s,.ref M]/\IsRule H c k r p d cs n m/\aV cs a.length/\H A=↥(a.map V.int)/\H M=↥(ms.map V.int)/\s<=1000/\∀ b,Same H b->Q (.bl (onlyB cs a z s ms)) b]
def kY(K:Frag)(c:Uk):TS:=#[":jGbscnxa4edf#1 GbNcCbi4df#0 ,~ncka0a2e,~Ucabi1bi4df#0 a3e"]
theorem yS(h:kX K c vs H Q E):kY K c (eD9 Q) (start ["rule","masks","cell","sign","more"] vs) H:=by
 obtain⟨k,r,p,A,M,u,cs,B,ms,n,m,z,s,rfl,x,f,j,d,v,q⟩:=h;exists kY;rw[aO d,P0];symm;unfold onlyB at q
 have e1:decide ((ms.length:Int)=1)=decide (ms.length=1):=by
  rw[Qx,P6,P6];omega
 rw[e1]
 cases e:decide (ms.length=1) with
 | false=>
  rw[e,P9]at q;exact iteF (q _ (P2 _))
 | true=>
  rw[e,Qc]at q;have y:=Qw e;refine iteT ?_;refine ixI d #[1] #[0] ?_;rw[show(0:Int).toNat=0 from rfl];exists⟨k,r,p,u,cs,n,m,z,rfl,x,f.1,λl w b i o=>?_⟩;dsimp only;rw[ot o]
  cases a:decide (ms.getD 0 0∈cs.filter λx=>!decide (x=z)) with
  | false=>
   rw[a,P9]at q;exact⟨false,rfl,iteF (q _ b)⟩
  | true=>
   rw[a,Qc]at q;have t:=QB.mp (Qw a);have g:=f.2 _ t.1;refine⟨true,rfl,iteT ?_⟩;exists ixI (b _ _ d) #[1] #[0] ?_;rw[show(0:Int).toNat=0 from rfl];exists ixI (b _ _ j) g.1 g.2 ?_;exists⟨_,s,rfl,by omega,q _ b⟩
theorem RR.cin22{r:RR}{h w g:Int}(O:r.Ok h w g)(F:FlOk h w g):aV r.cs (h*w).toNat:=by
 obtain⟨h0,h1,l,t,f,s,p⟩:=id F;have b:0<=h*w:=Rw #[0] #[0]
 cases d:allK r.k with
 | false=>
  obtain⟨q,m,i,o,e⟩:=O.cl.told d;rw[e];refine⟨by rw[P0];omega,λc a=>?_⟩;obtain⟨n,j,rfl⟩:=Qe.mp a;have:=i n j;omega
 | true=>
  obtain⟨_,e⟩:=O.cl.all d;rw[e];refine⟨by rw[l0];omega,λc a=>?_⟩;have:=Fa a;omega
structure Asks(H:Hp)(c:Uk)(d:Ul)(P L G A T M:Addr)(h w g:Int)(PP:List RR)(cl PM:∅)(t:TK)(r z s:Int)(ms:∅):Prop where
 P:IsPz H c d P L G h w g PP cl
 T:IsTh H T M t r z s ms
 A:H A=↥(PM.map V.int)
 n:PM.length=(h*w).toNat
variable{PP:List RR}
def Asks.same{b:Hp}{P L G A T M:Addr}{h w g:Int}{cl a:∅}(x:Asks H c d P L G A T M h w g PP cl a t r z s ms)(s':Same H b):Asks b c d P L G A T M h w g PP cl a t r z s ms:=⟨x.P.same s',x.T.same s',s' _ _ x.A,x.n⟩
def uD{h w g:Int}(f:formB h w g PP t r z s=true):0<=z/\z<h*w/\1<=s/\s<=g/\hitB t PP r z=true:=by
 unfold formB at f;simp only[Qy,P6]at f;exact⟨f.1.1,f.1.2,f.2.1.1,f.2.1.2,f.2.2⟩
theorem Ai(b:t≠.clue)(f:hitB t PP r z=true):0<=r/\∃ x,PP[r.toNat]? =some x/\goesB t x.k=true/\z∈x.cs:=by
 unfold hitB at f;by_cases a:r<0
 . rw[Qt a]at f;cases f
 rw[Qp a,Qp b]at f
 cases e:PP[r.toNat]? with
 | none=>rw[e]at f;cases f
 | some x=>
  rw[e]at f;simp only[Qy,P6]at f;exact⟨by omega,x,rfl,f.1,f.2⟩
def lawCA(ns:∅)(k:Int):Int:=if (ns.length:Int)=0 then(k*k*40692+7*k)%2147483647 else
 if k < (ns.length:Int) then ns.getD (k%ns.length).toNat 0%2305843009213693951 else(ns.getD (k%ns.length).toNat 0%2305843009213693951*48271+k*k*40692)%2305843009213693951
def Ja(ns:∅)(k:Int):0<=lawCA ns k:=by
 unfold lawCA
 split
 . exact QK _ #[1]
 . split
   . exact QK _ #[1]
   . exact QK _ #[1]
def br(K:Frag):Sp:=#[3,∃ a ns k,vs=[.ref a,.int k]/\SqL K H a (ns.map V.int)/\ns.length<=63/\0<=k/\k<=10000/\Q (.int (lawCA ns k)) H]
def iB(K:Frag):TS:=#[":gombscn~Vca0edf#0 jbAbvbUbU11df#40692 bUdf#7 1df#2147483647 pglbAb{yc0bA1n~Vca0edf#2305843009213693951 h#2 gomb<1n~Vca0ej2pjbAbvbU2df#48271 bUbU11df#40692 df#2305843009213693951 "]
def yT(h:br K vs H Q E):iB K (eD9 Q) (start ["_law_script","_law_k","_law_number_here"] vs) H:=by
 obtain⟨a,ns,k,rfl,c,j,k0,k1,q⟩:=h;have l:k*k<=10000*10000:=Int.mul_le_mul k1 k1 k0 #[1];have g:0<=k*k:=Rw k0 k0;ac_nf;unfold iB;rw[ax,az];exists⟨a,_,rfl,.inl c,?_⟩;symm;rw[P0];unfold lawCA at q;by_cases d:(ns.length:Int)=0
 . rw[Qt d]at q;rw[P4 d];refine iteT ⟨.inl ⟨by omega,by omega⟩,.inr ⟨by decide,by decide⟩,.inl ⟨by decide,by decide⟩,?_⟩;exists⟨by decide,q⟩
 . rw[Qp d]at q;rw[P3 d];have b:0 < (ns.length:Int):=by omega
   refine iteF ⟨a,_,rfl,.inl c,?_⟩;symm;rw[P0];have i:=QK k (Int.ne_of_gt b);have f:=QA k b;refine⟨b,a,_,_,_,rfl,rfl,c,xk i f,?_⟩;exists⟨by decide,?_⟩;rw[az];exists⟨a,_,rfl,.inl c,?_⟩;symm;rw[P0];by_cases e:k < (ns.length:Int)
   . rw[Qt e]at q;rw[P4 e];exact iteT q
   . rw[Qp e]at q;rw[P3 e];refine iteF ⟨.inr ⟨by decide,by decide⟩,.inl ⟨by omega,by omega⟩,.inr ⟨by decide,by decide⟩,?_⟩;exists⟨by decide,q⟩
def dn(K:Frag):Sp:=#[3,∃ A C a cs,vs=[.ref A,.ref C]/\H A=↥(a.map V.int)/\H C=↥(cs.map V.int)/\aV cs a.length/\∀ l b,Same H b->H l=none->b l=↥((sgAt a cs).map V.int)->Q (.ref l) b]
def qr(K:Frag):TS:=#[":jz&--0 yc1h#1 Hbi21"]
def Ev(h:dn K vs H Q E):qr K (eD9 Q) (start ["masks","cells"] vs) H:=by
 obtain⟨A,C,j,cs,rfl,m,e,⟨o,k⟩,q⟩:=h;exists qr;refine⟨⟨_,Qh e⟩,?_⟩;refine bc (xs:=cs) (λ_=>true) (λc=>j.getD c.toNat 0) #[0] (Qh e) ?_ ?_ ?_
 . intro x b R p a k1;exact k1 _ (P2 _)
 . intro z b f i n a k1;show tOp cIx _ _ [none,⇑z,↑A] b f;symm;have:=k z i;exact ixI (a _ _ m) this.1 #[0] (k1 _ (P2 _))
 . intro l b g a d;rw[bq]at d;exact q l b a g d
def g8(K:Frag):Sp:=#[3,∃(C:Addr) (ms:∅) (s:Int),vs=[.ref C,.int s]/\H C=↥(ms.map V.int)/\ms.length<=63/\∀ a,Same H a->Q (.int ((ms.filter λm=>stB m s).length:Nat)) a]
def qt(K:Frag):TS:=#[":jnxaz&--1 yc0h#1 w,~tca1a2e1e"]
def Ew(h:g8 K vs H Q E):qt K (eD9 Q) (start ["some","sign"] vs) H:=by
 obtain⟨C,ms,s,rfl,d,i,q⟩:=h;exists qt;refine⟨⟨_,Qh d⟩,?_⟩;refine bc (xs:=ms) (λm=>stB m s) (λm=>m) #[0] (Qh d) ?_ ?_ ?_
 . intro x a R f b k1;show tB _ [none,⇑x,⇑s] a R;exists⟨x,s,rfl,_,rfl,k1 _ (P2 _)⟩
 . intro z a e k g b k1;show tVar 1 [none,⇑z,⇑s] a e;exists k1 _ (P2 _)
 . intro l a j b c;rw[Rz]at c;rw[aO c,P0];exact q _ b
def CP(g:Int)(cs a:∅)(z s:Int)(ms:∅):Bool:=decide ((cs.length:Int)=g)&&(decide (ms.length=1)&&(!decide (ms.getD 0 0=s)&&((decide (1<=ms.getD 0 0)&&decide (ms.getD 0 0<=g))&&decide (((sgAt a (cs.filter λx=>!decide (x=z))).filter λm=>stB m (ms.getD 0 0)).length=0))))
def jZ(K:Frag)(c:Uk):Sp:=#[3,∃ k f r p A M d cs a ms n m z s h w g,vs=[.ref f,.ref r,.ref A,.int z,.int s,.ref M]/\IsFl H f h w g/\IsRule H c k r p d cs n m/\aV cs a.length/\H A=↥(a.map V.int)/\H M=↥(ms.map V.int)/\∀ b,Same H b->Q (.bl (CP g cs a z s ms)) b]
def h9(K:Frag)(c:Uk):TS:=#[":jbsc,~Wca,~oca2a,~ncka1a3eeabi5df#0 edf#0 "]
def lO(K:Frag)(c:Uk):TS:=#[":goBmbscbi5df#0 4Jw,'ica0abi5df#0 ejdFCp{zck"]
def j2(K:Frag)(c:Uk):TS:=#[":goBmbEcnxaDkK~B~Cck1eebi0df#2 mbEcnxa5edf#1 jdFCp{Ack"]
def tS {k:RK} {f r p A M:Addr} {h:List (List Nat)} {cs a:∅} {n m:Int} (x:IsRule H c k r p h cs n m) (d:aV cs a.length) (D:H A=↥(a.map V.int)) (t:H M=↥(ms.map V.int)) (G:ms.length=1)
  (q:∀ i,Same H i->Q (.bl (decide (((sgAt a (cs.filter λx=>!decide (x=z))).filter λm=>stB m (ms.getD 0 0)).length=0))) i):
  h9 K c (eD9 Q) [↑f,↑r,↑A,⇑z,⇑s,↑M] H:=by
 unfold h9;exists⟨k,r,p,h,cs,n,m,z,rfl,x,d.1,λO F g E v=>?_⟩;symm;have b:aV (cs.filter λx=>!decide (x=z)) a.length:=⟨Qa (Qk _ _) d.1,λy o=>d.2 y (QB.mp o).1⟩;refine⟨A,O,a,_,rfl,g _ _ D,v,b,λB J j I l=>?_⟩;dsimp only;refine ixI ((g.trans j) _ _ t) #[1] #[0] ?_;rw[show(0:Int).toNat=0 from rfl];exists⟨B,_,_,rfl,l,by unfold sgAt;rw[P0];exact b.1,λC u=>?_⟩;symm;have w:=q C ((g.trans j).trans u)
 have e:decide ((((sgAt a (cs.filter λx=>!decide (x=z))).filter λm=>stB m (ms.getD 0 0)).length:Int)=0)=decide (((sgAt a (cs.filter λx=>!decide (x=z))).filter λm=>stB m (ms.getD 0 0)).length=0):=by
  rw[Qx,P6,P6];omega
 rw[e];exact w
theorem xz(h:jZ K c vs H Q E):j2 K c (eD9 Q) (start ["floor","rule","masks","cell","sign","more"] vs) H:=by
 obtain⟨k,f,r,p,A,M,u,cs,O,ms,n,m,z,s,h,w,g,rfl,t,x,F,J,i,q⟩:=h;obtain⟨N,W,C,h1,h2,h3⟩:=x.ex;ac_nf;unfold j2;rw[ax,az];exists methE (k:=k) rfl x.ok h1 (by rfl) ?_;exists⟨r,p,u,cs,n,m,rfl,x,λl y=>?_⟩;obtain⟨L,G,a,D⟩:=aU (.lst (cs.map V.int)) y;rw[G]
 try dsimp only
 rw[aO D,P0];refine ixT (a _ _ t) (v:=V.int g) rfl ?_;symm;unfold CP at q
 cases o:decide ((cs.length:Int)=g) with
 | false=>
  rw[o,P9]at q;exists q _ a
 | true=>
  rw[o,Qc]at q;symm;rw[aO (a _ _ i),P0];symm
  have e1:decide ((ms.length:Int)=1)=decide (ms.length=1):=by
   rw[Qx,P6,P6];omega
  rw[e1]
  cases b:decide (ms.length=1) with
  | false=>
   rw[b,P9]at q;exists q _ a
  | true=>
   rw[b,Qc]at q;have j:=Qw b;symm;unfold lO;rw[ax,az];exists ixI (a _ _ i) #[1] #[0] ?_;rw[show(0:Int).toNat=0 from rfl];symm
   cases d:decide (ms.getD 0 0=s) with
   | true=>
    rw[d,RH,P9]at q;refine iteT ?_;exists q _ a
   | false=>
    rw[d,Sg,Qc]at q;refine iteF ?_;refine ixI (a _ _ i) #[1] #[0] ?_;rw[show(0:Int).toNat=0 from rfl];exists⟨f,h,w,g,_,rfl,a _ _ t,?_⟩
    cases e:(decide (1<=ms.getD 0 0)&&decide (ms.getD 0 0<=g)) with
    | false=>
     rw[e,P9]at q;refine⟨false,rfl,iteT ?_⟩;exists q _ a
    | true=>
     rw[e,Qc]at q;refine⟨true,rfl,iteF ?_⟩;exact tS (x.same a) F (a _ _ J) (a _ _ i) j λB I=>q B (a.trans I)
def Jb(t:TK):decide (tkC t=[112,108,97,99,101])=decide (t=.place):=by cases t <;> decide
def vX:List V->Hp->VK->Prop
 | [.int i,.int j],H,Q=>CDiv i j/\∀ p,H p=none->Q (.ref p) (upd H p (.tup [.int (i/j),.int (i%j)]))
 | _,_,_=>False
def CQ{X:Cx}:CallR X (.builtin "divmod") vX:=by
 intro b s σ H xs a Q I r h;unfold vX at h
 split at h
 . exact Ei b s σ H _ a Q I r ⟨_,_,rfl,h.1,h.2⟩
 . exact h.elim
def HE:bootBuiltins "divmod"=some (.builtin "divmod"):=by decide+kernel
def Jc{i j:Int}{H:Hp}{Q:VK}:vX [.int i,.int j] H Q=(CDiv i j/\∀ p,H p=none->Q (.ref p) (upd H p (.tup [.int (i/j),.int (i%j)]))):=rfl
def gw(K:Frag):Sp:=#[3,∃(C:Addr) (ms:∅) (s:Int),vs=[.ref C,.int s]/\H C=↥(ms.map V.int)/\ms.length<=63/\s<=100000/\∀ a,Same H a->Q (.int ((ms.filter λm=>decide (woI m s=0)).length:Nat)) a]
def oR(K:Frag):TS:=#[":jnxaz&--1 yc0h#1 w,~Uca1a2e1e"]
variable{K:Frag}{vs:List V}{H:Hp}{Q:VK}{E:XK}
def CS(h:gw K vs H Q E):oR K (eD9 Q) (start ["some","sign"] vs) H:=by
 obtain⟨C,ms,s,rfl,d,j,e,q⟩:=h;exists oR;refine⟨⟨_,Qh d⟩,?_⟩;refine bc (xs:=ms) (λm=>decide (woI m s=0)) (λm=>m) #[0] (Qh d) ?_ ?_ ?_
 . intro x a R g b k1;show tB _ [none,⇑x,⇑s] a R;exists⟨x,s,rfl,e,_,rfl,k1 _ (P2 _)⟩
 . intro z a f n i b k1;show tVar 1 [none,⇑z,⇑s] a f;exists k1 _ (P2 _)
 . intro l a k b c;rw[Rz]at c;rw[aO c,P0];exact q _ b
def rosP(c z:Int)(q:∅):Bool:=decide (q.getD 0 0=c)&&decide (z∈q)
def rosL(h w c z:Int):∅:=match (squL h w).find? (rosP c z) with
 | none=>[]
 | some q=>q.filter λx=>!decide (x=z)
variable{h w:Int}
def Fd{q:∅}(b:q∈squL h w):∃ i:Nat,i < (h*w).toNat/\cornB h w i=true/\q=sqL w i:=by
 unfold squL at b;obtain⟨i,a,rfl⟩:=Qe.mp b;obtain⟨a,c⟩:=QB.mp a;exact⟨i,Qf.mp a,c,rfl⟩
def Ka{c:Int}(d:1<=w)(b:0<=c)(a:cornB h w c=true):c+w+1<h*w:=by
 unfold cornB at a;rw[Qy,P6,P6]at a;have e:=Int.mul_ediv_add_emod c w;have m:=Int.mul_le_mul_of_nonneg_left (show c/w+2<=h by omega) (show 0<=w by omega);rw[Int.mul_add]at m;rw[Int.mul_comm h w];omega
def Md{c x:Int}(b:1<=w)(a:0<=c)(d:cornB h w c=true)(e:x∈sqL w c):0<=x/\x<h*w:=by
 have:=Ka b a d;simp[sqL]at e;omega
variable{z:Int}
theorem Lw{g c:Int}{n:Nat}(F:FlOk h w g)(j:n=(h*w).toNat):aV (rosL h w c z) n:=by
 have b:=F.w0;unfold rosL
 cases e:(squL h w).find? (rosP c z) with
 | none=>exact⟨by show(0:Nat)<=63;omega,λx a=>by cases a⟩
 | some q=>
  obtain⟨i,f,d,rfl⟩:=Fd (List.mem_of_find?_eq_some e);refine⟨Qa (Qk _ _) (by show(4:Nat)<=63;omega),λx a=>?_⟩;have:=Md b #[0] d (QB.mp a).1;omega
def jf(K:Frag):Sp:=#[3,∃ f h w g c z,vs=[.ref f,.int c,.int z]/\IsFl H f h w g/\FlOk h w g/\∀ l a,Same H a->H l=none->a l=↥((rosL h w c z).map V.int)->Q (.ref l) a]
def jg(K:Frag):TS:=#[":gTyc,'Jca0eh#3 oWmbscbi3df#0 1mbNcC23jz&--2 yc3h#1 mbEc121pjue"]
def wa(h:jf K vs H Q E):jg K (eD9 Q) (start ["floor","corner","cell","square"] vs) H:=by
 obtain⟨f,h,w,g,c,z,rfl,I,F,q⟩:=h;ac_nf;unfold jg;rw[ax];exists⟨f,h,w,g,rfl,I,F,λl P H1 B hl x nd nl hn=>?_⟩;refine⟨l,rfl,⟨_,Qh x.top⟩,?_⟩;refine dF (K:=K) (xs:=P.map V.ref) (λi σ S=>∃ D:Option V,σ=[↑f,⇑c,⇑z,D]/\Same H1 S/\∀(j:Nat) (q:∅),j<i->(squL h w)[j]? =some q->rosP c z q=false) ⟨none,rfl,P2 _,λj q L=>by omega⟩ (λi σ S _ ⟨_,_,s,_⟩=>s.seq (Qh x.top)) ?_ ?_
 . rintro i v σ U o ⟨D,rfl,d,b⟩;rw[P5]at o
   cases C:P[i]? with
   | none=>rw[C]at o;cases o
   | some a=>
   rw[C]at o;cases o;have m:i < (squL h w).length:=by rw[← x.len];exact(P8.mp C).1
   have W:(squL h w)[i]? =some (squL h w)[i]:=P1 m;have A:=(x.same d).at_ i a _ C W
   have q4:((squL h w)[i]).length=4:=by
    obtain⟨k,_,_,e⟩:=Fd (QE m);rw[e];rfl
   have nx:rosP c z (squL h w)[i]=false->∀(j:Nat) (q:∅),j<i+1->(squL h w)[j]? =some q->rosP c z q=false:=λI j q L p=>by
    by_cases G:j=i
    . subst G;rw[W]at p;cases p;exact I
    . exact b j q #[0] p
   have u:rosP c z (squL h w)[i]=true->rosL h w c z=(squL h w)[i].filter λx=>!decide (x=z):=λY=>by
    have e:(squL h w).find? (rosP c z)=some (squL h w)[i]:=by
     rw[List.find?_eq_some_iff_getElem];refine⟨Y,i,m,rfl,λj L=>?_⟩;rw[b j _ L (P1 #[0])];rfl
    unfold rosL;rw[e]
   generalize (squL h w)[i]=sq at*;unfold rosP at nx u;symm;rw[az];exists ixI A #[1] #[0] ?_;rw[show(0:Int).toNat=0 from rfl];symm
   cases J:decide (sq.getD 0 0=c) with
   | false=>
    rw[J,P9]at nx;refine iteF ?_;exists⟨_,rfl,d,nx rfl⟩
   | true=>
    rw[J,Qc]at nx u;refine iteT ?_;rw[ot A]
    cases n:decide (z∈sq) with
    | false=>
     rw[n]at nx;refine⟨false,rfl,?_⟩;exists⟨_,rfl,d,nx rfl⟩
    | true=>
     rw[n]at u;refine⟨true,rfl,?_⟩;exists⟨⟨_,Qh A⟩,?_⟩;refine bc (xs:=sq) (λx=>!decide (x=z)) (λx=>x) #[0] (Qh A) ?_ ?_ ?_
     . intro y r R Z M k3;show tTest _ [none,⇑y,⇑z] r R;exists k3 _ (P2 _)
     . intro y r X Z J M k3;show tVar 1 [none,⇑y,⇑z] r X;exists k3 _ (P2 _)
     . intro T r t M N;rw[Rz,← u rfl]at N;exact q T r ((B.trans d).trans M) ((B.trans d).free t) N
 . rintro σ U ⟨D,rfl,d,b⟩
   have e:rosL h w c z=[]:=by
    have e:(squL h w).find? (rosP c z)=none:=by
     rw[List.find?_eq_none];intro q p;obtain⟨i,O⟩:=List.getElem?_of_mem p;rw[b i q (by rw[P0,x.len];exact(P8.mp O).1) O];decide
    unfold rosL;rw[e]
   exists⟨aQ #[1],λT t=>?_⟩;exact q T _ ((B.trans d).trans ((P2 U).laid t)) ((B.trans d).free t) (by rw[ai,e];rfl)
def squB(h w m:Int)(a:∅)(z s:Int)(ms:∅):Bool:=decide (s=m)&&(decide (ms.length=1)&&(!decide (rosL h w (ms.getD 0 0) z=[])&&decide (((sgAt a (rosL h w (ms.getD 0 0) z)).filter λk=>decide (woI k s=0)).length=(rosL h w (ms.getD 0 0) z).length)))
def jh(K:Frag)(c:Uk):Sp:=#[3,∃ k f r p A M d cs a ms n m z s h w g,vs=[.ref f,.ref r,.ref A,.int z,.int s,.ref M]/\IsFl H f h w g/\FlOk h w g/\IsRule H c k r p d cs n m/\a.length=(h*w).toNat/\H A=↥(a.map V.int)/\H M=↥(ms.map V.int)/\s<=1000/\∀ b,Same H b->Q (.bl (squB h w m a z s ms)) b]
def gI(K:Frag)(c:Uk):TS:=#[":gl,{Bca0abi5df#0 a3eh#6 jGbEc6uebsc,~Xca,~oca2a6ea4enxa6e"]
def ji(K:Frag)(c:Uk):TS:=#[":goBmbEc4DkK~F~Gck1embEcnxa5edf#1 jdFCp{Cck"]
variable{c:Uk}{PM:∅}
theorem sM {f A M:Addr} {y:V} {ms:∅} {s g:Int} (u:IsFl H f h w g) (F:FlOk h w g) (d:PM.length=(h*w).toNat) (E:H A=↥(PM.map V.int)) (t:H M=↥(ms.map V.int)) (I:ms.length=1) (L:s<=1000)
  (q:∀ o,Same H o->Q (.bl (!decide (rosL h w (ms.getD 0 0) z=[])&&decide (((sgAt PM (rosL h w (ms.getD 0 0) z)).filter λk=>decide (woI k s=0)).length=(rosL h w (ms.getD 0 0) z).length))) o):
  gI K c (eD9 Q) [↑f,some y,↑A,⇑z,⇑s,↑M,none] H:=by
 have b:=Lw (c:=ms.getD 0 0) (z:=z) F d;unfold gI;exists ixI t #[1] #[0] ?_;rw[show(0:Int).toNat=0 from rfl];exists⟨f,h,w,g,_,z,rfl,u,F,λR l D G i=>?_⟩;exists⟨aQ #[1],λZ v=>?_⟩;obtain⟨H2,z9,s2,eZ⟩:∃ z,upd l Z (.lst [])=z/\Same l z/\z Z=↥(([]:∅).map V.int):=aU _ v;rw[z9];have a:=D.trans s2;refine yt (s2 _ _ i) eZ ?_;generalize n:rosL h w (ms.getD 0 0) z=ros at*
 cases m:decide (ros=[]) with
 | true=>
  rw[m,RH]at q;refine⟨false,rfl,iteF ?_⟩;exact q _ a
 | false=>
  rw[m,Sg]at q;refine⟨true,rfl,iteT ?_⟩;exists⟨A,R,PM,ros,rfl,a _ _ E,s2 _ _ i,b,λB N p J r=>?_⟩;dsimp only;refine⟨B,_,s,rfl,r,by unfold sgAt;rw[P0];exact b.1,by omega,λx j=>?_⟩;symm;rw[aO (((s2.trans p).trans j) _ _ i),P0];symm;have C:=q x ((a.trans p).trans j)
  have e:decide ((((sgAt PM ros).filter λk=>decide (woI k s=0)).length:Int)=(ros.length:Int))=decide (((sgAt PM ros).filter λk=>decide (woI k s=0)).length=ros.length):=by
   rw[Qx,P6,P6];omega
  rw[e];exact C
theorem wc(h:jh K c vs H Q E):ji K c (eD9 Q) (start ["floor","rule","masks","cell","sign","more","rest"] vs) H:=by
 obtain⟨k,f,r,p,A,M,o,cs,PM,ms,n,m,z,s,h,w,g,rfl,j,F,x,b,l,d,i,q⟩:=h;obtain⟨t,W,C,h1,h2,h3⟩:=x.ex;ac_nf;unfold ji;rw[ax,az];exists methE (k:=k) rfl x.ok h1 (by rfl) ?_;exists⟨r,p,o,cs,n,m,rfl,x,?_⟩;symm;unfold squB at q
 cases e:decide (s=m) with
 | false=>
  rw[e,P9]at q;exists q _ (P2 _)
 | true=>
  rw[e,Qc]at q;symm;rw[aO d,P0];symm
  have e1:decide ((ms.length:Int)=1)=decide (ms.length=1):=by
   rw[Qx,P6,P6];omega
  rw[e1]
  cases a:decide (ms.length=1) with
  | false=>
   rw[a,P9]at q;exists q _ (P2 _)
  | true=>
   rw[a,Qc]at q;exists sM j F b l d (Qw a) i q
def HF(t:TK):decide (tkC t=[115,113,117,97,114,101])=decide (t=.square):=by cases t <;> decide
def othL(cs:∅)(z:Int):∅:=cs.filter λx=>!decide (x=z)
def cntB(cs:∅)(n m:Int)(PM:∅)(z s:Int)(ms:∅):Bool:=
 decide (ms=[])&&(if s=m then decide (n<=(((sgAt PM (othL cs z)).filter λk=>decide (woI k s=0)).length:Int)) else decide ((((sgAt PM (othL cs z)).filter λk=>stB k m).length:Int)<n))
def j3(K:Frag)(c:Uk):Sp:=#[3,∃ k r p A M b cs PM ms n m z s,vs=[.ref r,.ref A,.int z,.int s,.ref M]/\IsRule H c k r p b cs n m/\aV cs PM.length/\H A=↥(PM.map V.int)/\H M=↥(ms.map V.int)/\s<=1000/\∀ a,Same H a->Q (.bl (cntB cs n m PM z s ms)) a]
def ia(K:Frag)(c:Uk):TS:=#[":gl,~oca1a,~ncka0a2eeh#5 gombsc3DkK~F~Gck0ejb),~Xca5a3eDkK~Y~Zck0epjb<,~Wca5aDkK~F~Gck0eeDkK~Y~Zck0e"]
def j4(K:Frag)(c:Uk):TS:=#[":gombEc4uejdFCp{Dck"]
variable{cs:∅}{m:Int}
def tT {k:RK} {r p A M:Addr} {e:List (List Nat)} {n s:Int} (x:IsRule H c k r p e cs n m) (l:aV cs PM.length) (P:H A=↥(PM.map V.int)) (D:s<=1000)
  (q:∀ u,Same H u->Q (.bl (if s=m then decide (n<=(((sgAt PM (othL cs z)).filter λk=>decide (woI k s=0)).length:Int)) else decide ((((sgAt PM (othL cs z)).filter λk=>stB k m).length:Int)<n))) u):
  ia K c (eD9 Q) [↑r,↑A,⇑z,⇑s,↑M,none] H:=by
 have f:aV (othL cs z) PM.length:=⟨Qa (Qk _ _) l.1,λy E=>l.2 y (QB.mp E).1⟩;have t:(sgAt PM (othL cs z)).length<=63:=by unfold sgAt;rw[P0];exact f.1
 unfold ia;exists⟨k,r,p,e,cs,n,m,z,rfl,x,l.1,λO S v R J=>?_⟩;exists⟨A,O,PM,othL cs z,rfl,v _ _ P,J,f,λB X L U o=>?_⟩;have b:=v.trans L;have a:=x.same b;obtain⟨T,W,C,h1,h2,h3⟩:=a.ex;symm;rw[az];exists methE (k:=k) rfl a.ok h1 (by rfl) ?_;exists⟨r,p,e,cs,n,m,rfl,a,?_⟩;symm;by_cases h:s=m
 . rw[Qt h]at q;rw[P4 h];exists⟨B,_,_,rfl,o,t,by omega,λN g=>?_⟩;have d:=a.same g;obtain⟨j,w,I,i,G,F⟩:=d.ex;refine methE (k:=k) rfl d.ok i (by rfl) ?_;exists⟨r,p,e,cs,n,m,rfl,d,?_⟩;exists q _ (b.trans g)
 . rw[Qp h]at q;rw[P3 h];exists methE (k:=k) rfl a.ok h1 (by rfl) ?_;exists⟨r,p,e,cs,n,m,rfl,a,?_⟩;exists⟨B,_,_,rfl,o,t,λN g=>?_⟩;have d:=a.same g;obtain⟨j,w,I,i,G,F⟩:=d.ex;refine methE (k:=k) rfl d.ok i (by rfl) ?_;exists⟨r,p,e,cs,n,m,rfl,d,?_⟩;exists q _ (b.trans g)
theorem xA(h:j3 K c vs H Q E):j4 K c (eD9 Q) (start ["rule","masks","cell","sign","more","some"] vs) H:=by
 obtain⟨k,r,p,A,M,l,cs,PM,ms,n,m,z,s,rfl,x,j,g,b,d,q⟩:=h;ac_nf;unfold j4;rw[ax,az];exists⟨aQ #[1],λZ f=>?_⟩;obtain⟨H1,z9,s1,eZ⟩:∃ z,upd H Z (.lst [])=z/\Same H z/\z Z=↥(([]:∅).map V.int):=aU _ f;rw[z9];refine yt (s1 _ _ b) eZ ?_;unfold cntB at q
 cases a:decide (ms=[]) with
 | false=>
  rw[a,P9]at q;refine⟨true,rfl,?_⟩;exists q _ s1
 | true=>
  rw[a,Qc]at q;refine⟨false,rfl,?_⟩;exists tT (x.same s1) j (s1 _ _ g) d λi e=>q i (s1.trans e)
def Jd(t:TK):decide (tkC t=[99,111,117,110,116])=decide (t=.count):=by cases t <;> decide
variable{xs:∅}
def sO{q:Addr}{x:Int}(j:H q=↥(xs.map V.int))(k:x∈xs)(l:xs.length<=900)(h:Q (.int (xs.findIdx (· ==x):Nat)) H):kE K (.ref q) [.int x] H Q:=by
 have c:xs.findIdx (· ==x)<xs.length:=RU ⟨x,k,by simp⟩
 have g:∀ a b:Int,PyData.eqv (.int a) (.int b)=decide (a=b):=λa b=>by
  rw[PyData.eqv];by_cases h:a=b
  . subst h;simp
  . simp[h]
 refine⟨xs.map PyData.int,.int x,xs.findIdx (· ==x),.lst (Qh j) (.ints xs),.int x,oo xs,rfl,?_,by omega,⟨PyData.int xs[xs.findIdx (· ==x)],?_,?_⟩,λm e d i=>?_,h⟩
 . rw[kC];omega
 . rw[P5,P1 c];rfl
 . have:=List.findIdx_getElem (w:=c);rw[g,P6]
   simpa using this
 . have f:m<xs.length:=by omega
   rw[P5,P1 f]at i;cases i;have:=TM d;rw[g,Sr]
   simpa using this
def kZ(xs:∅)(x:Int):Nat:=xs.findIdx (· ==x)
def ordB(cs ms:∅):Bool:=decide (ms.length=2)&&(decide (ms.getD 0 0∈cs)&&(decide (ms.getD 1 0∈cs)&&decide (kZ cs (ms.getD 0 0)<kZ cs (ms.getD 1 0))))
def gJ(K:Frag):Sp:=#[3,∃ C M cs ms,vs=[.ref C,.ref M]/\H C=↥(cs.map V.int)/\cs.length<=63/\H M=↥(ms.map V.int)/\Q (.bl (ordB cs ms)) H]
def gK(K:Frag):TS:=#[":goBmbEcnxa1edf#2 BmbNcPbi1df#0 0mbNcPbi1df#1 0jdFCpjb<RcQ~Hc0abi1df#0 eRcQ~Hc0abi1df#1 e"]
theorem sP(h:gJ K vs H Q E):gK K (eD9 Q) (start ["cells","more"] vs) H:=by
 obtain⟨C,M,cs,ms,rfl,c,g,d,q⟩:=h;ac_nf;unfold gK;rw[ax,az];symm;rw[aO d,P0];symm;unfold ordB at q
 have e1:decide ((ms.length:Int)=2)=decide (ms.length=2):=by
  rw[Qx,P6,P6];omega
 rw[e1]
 cases e:decide (ms.length=2) with
 | false=>
  rw[e,P9]at q;symm;exact q
 | true=>
  rw[e,Qc]at q;have f:=Qw e;exists ixI d #[1] #[0] ?_;rw[show(0:Int).toNat=0 from rfl];symm;rw[jJ c]
  cases b:decide (ms.getD 0 0∈cs) with
  | false=>
   rw[b,P9]at q;refine⟨true,rfl,iteT ?_⟩;symm;exact q
  | true=>
   rw[b,Qc]at q;refine⟨false,rfl,iteF ?_⟩;exists ixI d #[1] #[0] ?_;rw[show(1:Int).toNat=1 from rfl];symm;rw[jJ c]
   cases a:decide (ms.getD 1 0∈cs) with
   | false=>
    rw[a,P9]at q;refine⟨true,rfl,iteT ?_⟩;symm;exact q
   | true=>
    rw[a,Qc]at q;refine⟨false,rfl,iteF ?_⟩;exists⟨cC c,?_⟩;refine ixI d #[1] #[0] ?_;rw[show(0:Int).toNat=0 from rfl];exists sO c (Qw b) #[0] ?_;exists⟨cC c,?_⟩;refine ixI d #[1] #[0] ?_;rw[show(1:Int).toNat=1 from rfl];exists sO c (Qw a) #[0] ?_;symm
    have e2:decide (((cs.findIdx (· ==ms.getD 0 0):Nat):Int) < ((cs.findIdx (· ==ms.getD 1 0):Nat):Int))=decide (kZ cs (ms.getD 0 0)<kZ cs (ms.getD 1 0)):=by
     rw[Qx,P6,P6];unfold kZ;omega
    rw[e2];exact q
def orM(PM:∅)(ms:∅):Int:=Builtin.bitOr (PM.getD (ms.getD 0 0).toNat 0) (PM.getD (ms.getD 1 0).toNat 0)
def pairB(cs PM:∅)(z s:Int)(ms:∅):Bool:=ordB (cs.filter λx=>!decide (x=z)) ms&&decide (((sgL (orM PM ms)).filter λx=>!decide (x=s)).length<=1)
def Lx{a b:Int}(a0:0<=a)(c:0<=b):Builtin.bitOr a b=((a.toNat||| b.toNat:Nat):Int):=by
 have f:∀{x:Int},0<=x->decide (0<= -x-1)=false/\ -(-x-1)-1=x:=λh=>⟨P3 #[0],by omega⟩;unfold Builtin.bitOr Builtin.bitAnd Builtin.bitNot;rw[(f a0).1,(f c).1];show -(-((((-(-a-1)-1).toNat||| (-(-b-1)-1).toNat:Nat):Int))-1)-1=_;rw[(f a0).2,(f c).2];omega
def Mf{a b:Int}(a0:0<=a)(e:a<64)(c:0<=b)(d:b<64):0<=Builtin.bitOr a b/\Builtin.bitOr a b<64:=by
 have l:a.toNat||| b.toNat<2^6:=Nat.or_lt_two_pow #[0] #[0];rw[Lx a0 c];omega
def Ly:((List.range 64).all λm=>decide (Builtin.Int.intBits (m:Int)<=6)&&decide (sgL (m:Int)=(([0,1,2,3,4,5]:List Nat).filter λ(i:Nat)=>stB (m:Int) (1+(i:Int))).map λ(i:Nat)=>1+(i:Int)))=true:=by decide+kernel
def jD(b:0<=m)(a:m<64):Builtin.Int.intBits m<=6/\sgL m=(([0,1,2,3,4,5]:List Nat).filter λ(i:Nat)=>stB m (1+(i:Int))).map λ(i:Nat)=>1+(i:Int):=by
 have t:=Qj.mp Ly m.toNat (Qf.mpr #[0]);have e1:((m.toNat:Nat):Int)=m:=by omega
 rw[e1,Qy,P6,P6]at t;exact t
def yU{i:Int}(b:∀ m∈PM,0<=m/\m<64)(c:0<=i)(d:i<PM.length):0<=PM.getD i.toNat 0/\PM.getD i.toNat 0<64:=by
 have a:i.toNat<PM.length:=by omega
 rw[List.getD,P1 a];exact b _ (QE a)
def k9(K:Frag)(c:Uk):Sp:=#[3,∃ k r p A M b cs PM ms n m z s,vs=[.ref r,.ref A,.int z,.int s,.ref M]/\IsRule H c k r p b cs n m/\aV cs PM.length/\(∀ m∈PM,0<=m/\m<64)/\H A=↥(PM.map V.int)/\H M=↥(ms.map V.int)/\∀ a,Same H a->Q (.bl (pairB cs PM z s ms)) a]
def iJ(K:Frag)(c:Uk):TS:=#[":gl,~pcab{Ebi1bi4df#0 bi1bi4df#1 eh#5 jb(nxaz&--3 yc5h#1 mbEc121edf#1 "]
def lc(K:Frag)(c:Uk):TS:=#[":goJw,{Fca,~ncka0a2ea4ejdFCp{Gck"]
def uE {A M:Addr} {ms:∅} {s:Int} {r:V} (o:aV cs PM.length) (j:∀ m∈PM,0<=m/\m<64) (p:H A=↥(PM.map V.int)) (k:H M=↥(ms.map V.int)) (g:ordB (cs.filter λx=>!decide (x=z)) ms=true)
  (q:∀ n,Same H n->Q (.bl (decide (((sgL (orM PM ms)).filter λx=>!decide (x=s)).length<=1))) n):
  iJ K c (eD9 Q) [some r,↑A,⇑z,⇑s,↑M,none] H:=by
 unfold ordB at g;simp only[Qy,P6]at g;obtain⟨J,w,B,_⟩:=g;have b:=o.2 _ (QB.mp w).1;have f:=o.2 _ (QB.mp B).1;have k0:=yU j b.1 b.2;have k1:=yU j f.1 f.2;have d:=Mf k0.1 k0.2 k1.1 k1.2;have G:=(jD d.1 d.2).1;unfold iJ;exists ixI k #[1] #[0] ?_;rw[show(0:Int).toNat=0 from rfl];exists ixI p b.1 b.2 ?_;exists ixI k #[1] #[0] ?_;rw[show(1:Int).toNat=1 from rfl];exists ixI p f.1 f.2 ?_;exists⟨_,rfl,by omega,λl v D C y=>?_⟩;have a:v l=↥((sgL (orM PM ms)).map V.int):=y
 have E:(sgL (orM PM ms)).length<=6:=by
  unfold orM;rw[(jD d.1 d.2).2,P0];exact Qk _ _
 exists⟨⟨_,Qh a⟩,?_⟩;refine bc (xs:=sgL (orM PM ms)) (λx=>!decide (x=s)) (λx=>x) #[0] (Qh a) ?_ ?_ ?_
 . intro x e R t h k2;show tTest _ [none,⇑x,⇑s] e R;exists k2 _ (P2 _)
 . intro x e u t I h k2;show tVar 1 [none,⇑x,⇑s] e u;exists k2 _ (P2 _)
 . intro T e F h i;rw[Rz]at i;symm;rw[aO i,P0];symm
   have e2:decide ((((sgL (orM PM ms)).filter λx=>!decide (x=s)).length:Int)<=1)=decide (((sgL (orM PM ms)).filter λx=>!decide (x=s)).length<=1):=by
    rw[Qx,P6,P6];omega
   rw[e2];exact q _ (D.trans h)
theorem yV(h:k9 K c vs H Q E):lc K c (eD9 Q) (start ["rule","masks","cell","sign","more","together"] vs) H:=by
 obtain⟨k,r,p,A,M,o,cs,PM,ms,n,m,z,s,rfl,x,d,g,j,e,q⟩:=h;ac_nf;unfold lc;rw[ax,az];exists⟨k,r,p,o,cs,n,m,z,rfl,x,d.1,λO u a t f=>?_⟩;exists⟨O,M,_,ms,rfl,f,Qa (Qk _ _) d.1,a _ _ e,?_⟩;unfold pairB at q
 cases b:ordB (cs.filter λx=>!decide (x=z)) ms with
 | false=>
  rw[b,P9]at q;refine⟨false,rfl,iteT ?_⟩;exists q _ a
 | true=>
  rw[b,Qc]at q;refine⟨true,rfl,iteF ?_⟩;exact uE d g (a _ _ j) (a _ _ e) b λl i=>q l (a.trans i)
def Kb(t:TK):decide (tkC t=[115,116,101,112])=decide (t=.step):=by cases t <;> decide
def Fe(xs:List V){a b:Nat}(d:a<=b):cutV xs (some (a:Int)) (some (b:Int))=(xs.drop a).take (b-a):=by
 have h1:HT.sIx xs.length 0 (some (a:Int))=min a xs.length:=by rw[HT.sIx_nat]
 have h2:HT.sIx xs.length xs.length (some (b:Int))=min b xs.length:=by rw[HT.sIx_nat]
 unfold cutV;rw[h1,h2];by_cases c:a<=xs.length
 . rw[T4 c];by_cases e:b<=xs.length
   . rw[T4 e]
   . rw[SR #[0],Q8 (by simp),Q8 (by simp;omega)]
 . rw[SR #[0],SR #[0],Sh,TN #[0]];simp
def mJ {k:Nat} {a:Addr} {d:TE} {fin:Addr->Hp->Prop} {e:St} {b:Hp} (f:Int->Bool) (o:xs.length<=900) (n:SqL K b a (xs.map V.int))
  (r:∀ x H Q,x∈xs->Same b H->(∀ j,Same H j->Q (.bl (f x)) j)->d (e.set k ⇑x) H Q)
  (q:∀ l H,b l=none->Same b H->H l=↥((xs.map f).map V.bl)->fin l H):
  CompR (Itl K a) (gName k) tTrue d fin e b:=by
 refine bM (xs:=xs.map V.int) (λ_=>true) (λi=>.bl (f (xs.getD i 0))) (by rw[P0];exact o) n ?_ ?_ ?_
 . intro i x H R m c k1;exact k1 _ (P2 _)
 . intro i x H Q m t c h;obtain⟨z,g,rfl⟩:=bj m;have h2:=h;simp only[ja g]at h2;exact r z H Q (Qi g) c h2
 . intro l H p c s;refine q l H p c ?_;rw[s,bq,P0,QO]
   congr 2
   exact tz xs λx=>V.bl (f x)
def ahdL(cs:∅)(z:Int):∅:=if 0<kZ cs z then [cs.getD (kZ cs z-1) 0] else []
def behL(cs:∅)(z:Int):∅:=if kZ cs z+1<cs.length then [cs.getD (kZ cs z+1) 0] else []
def Jz(h:z∈cs):kZ cs z<cs.length:=RU ⟨z,h,by simp⟩
def Kc{o:Int}(h:z∈cs)(a:o∈ahdL cs z):o∈cs:=by
 have:=Jz h;unfold ahdL at a
 split at a
 . rw[Qz.mp a,List.getD,P1 #[0]];exact QE _
 . cases a
def Ke{o:Int}(a:o∈behL cs z):o∈cs:=by
 unfold behL at a
 split at a
 . rename_i h
   rw[Qz.mp a,List.getD,P1 h];exact QE _
 . cases a
def CT(cs:∅)(k:Nat):(cs.drop k).take 1=if k<cs.length then [cs.getD k 0] else []:=by
 by_cases h:k<cs.length
 . rw[Qt h,Ry h,List.getD,P1 h];rfl
 . rw[Qp h,TN #[0]];rfl
def qu(K:Frag)(c:Uk):Sp:=#[3,∃ k r p b cs n m z,vs=[.ref r,.int z]/\IsRule H c k r p b cs n m/\cs.length<=63/\z∈cs/\∀ l a,Same H a->H l=none->a l=↥((ahdL cs z).map V.int)->Q (.ref l) a]
def qv(K:Frag)(c:Uk):TS:=#[":glDkK~B~Cck0eh#2 glRcQ~Hc2a1eh#3 j~mmb>3df#0 ~k~l2~dbI3df#1 ~d3ue"]
def Ex(h:qu K c vs H Q E):qv K c (eD9 Q) (start ["rule","cell","spots","place"] vs) H:=by
 obtain⟨k,r,p,u,cs,n,m,z,rfl,x,w,e,q⟩:=h;obtain⟨v,W,C,h1,h2,h3⟩:=x.ex;have t:=Jz e;ac_nf;unfold qv;rw[ax,bP];refine methE (k:=k) rfl x.ok h1 (by rfl) ?_;exists⟨r,p,u,cs,n,m,rfl,x,λS g=>?_⟩;obtain⟨y,i,b,d⟩:=aU (.lst (cs.map V.int)) g;rw[i];exists⟨cC d,?_⟩;refine sO d e #[0] ?_;have s:(cs.findIdx (· ==z))=kZ cs z:=rfl;rw[s];unfold ahdL at q;generalize kZ cs z=j at*;symm;by_cases f:0<j
 . rw[Qt f]at q;rw[P4 (show(0:Int) < (j:Int) by omega)];refine iteT ?_;refine yw d λl a=>?_;have o:(j:Int)-1=((j-1:Nat):Int):=by omega
   rw[o,Fe _ #[0],show j - (j-1)=1 by omega,← List.map_drop,← Tx,CT,Qt #[0]];exact q l _ (b.laid a) (b.free a) ai
 . rw[Qp f]at q;rw[P3 (show ¬ (0:Int) < (j:Int) by omega)];refine iteF ?_;refine⟨aQ #[1],λl a=>?_⟩;exact q l _ (b.laid a) (b.free a) ai
def uF(K:Frag)(c:Uk):Sp:=#[3,∃ k r p b cs n m z,vs=[.ref r,.int z]/\IsRule H c k r p b cs n m/\cs.length<=63/\z∈cs/\∀ l a,Same H a->H l=none->a l=↥((behL cs z).map V.int)->Q (.ref l) a]
def uG(K:Frag)(c:Uk):TS:=#[":glDkK~B~Cck0eh#2 glRcQ~Hc2a1eh#3 j~k~l2~dbv3df#1 ~dbv3df#2 "]
def HG(h:uF K c vs H Q E):uG K c (eD9 Q) (start ["rule","cell","spots","place"] vs) H:=by
 obtain⟨k,r,p,t,cs,n,m,z,rfl,x,v,s,q⟩:=h;obtain⟨u,W,C,h1,h2,h3⟩:=x.ex;ac_nf;unfold uG;rw[ax,bP];refine methE (k:=k) rfl x.ok h1 (by rfl) ?_;exists⟨r,p,t,cs,n,m,rfl,x,λS e=>?_⟩;obtain⟨w,f,b,a⟩:=aU (.lst (cs.map V.int)) e;rw[f];exists⟨cC a,?_⟩;refine sO a s #[0] ?_;have o:(cs.findIdx (· ==z))=kZ cs z:=rfl;rw[o];unfold behL at q;generalize kZ cs z=j at*;exists yw a λl d=>?_;have g:(j:Int)+1=((j+1:Nat):Int):=by omega
 have i:(j:Int)+2=((j+2:Nat):Int):=by omega
 rw[g,i,Fe _ #[0],show j+2 - (j+1)=1 by omega,← List.map_drop,← Tx,CT];exact q l _ (b.laid d) (b.free d) ai
def nogB(s m:Int):Bool:=(sgL m).all λx=>decide (s<=x)
def nolB(s m:Int):Bool:=(sgL m).all λx=>decide (x<=s)
def JA(b:0<=m)(a:m<64):(sgL m).length<=6:=by
 rw[(jD b a).2,P0];exact Qk _ _
def j5(K:Frag):Sp:=#[3,∃ s m:Int,vs=[.int s,.int m]/\0<=m/\m<64/\∀ a,Same H a->Q (.bl (nogB s m)) a]
def j6(K:Frag):TS:=#[":jn~aaz&--0 yc,~pca1eh#1 Hb(21e"]
def xB(h:j5 K vs H Q E):j6 K (eD9 Q) (start ["sign","mask"] vs) H:=by
 obtain⟨s,m,rfl,f,b,q⟩:=h;have k:=(jD f b).1;have t:=JA f b;exists j6;refine⟨m,rfl,by omega,λl r j p e=>?_⟩;refine⟨l,rfl,⟨_,Qh e⟩,?_⟩;refine mJ (xs:=sgL m) (λx=>decide (s<=x)) #[0] (Qh e) ?_ ?_
 . intro x c g n d k2;show tOp _ _ _ [none,⇑x,⇑s] c g;exists k2 _ (P2 _)
 . intro o c i d a;exists nO a ?_;rw[R8];exact q _ (j.trans d)
def nk(K:Frag):Sp:=#[3,∃ s m:Int,vs=[.int s,.int m]/\0<=m/\m<64/\∀ a,Same H a->Q (.bl (nolB s m)) a]
def nq(K:Frag):TS:=#[":jn~aaz&--0 yc,~pca1eh#1 Hb)21e"]
def Bw(h:nk K vs H Q E):nq K (eD9 Q) (start ["sign","mask"] vs) H:=by
 obtain⟨s,m,rfl,f,b,q⟩:=h;have k:=(jD f b).1;have t:=JA f b;exists nq;refine⟨m,rfl,by omega,λl r j p e=>?_⟩;refine⟨l,rfl,⟨_,Qh e⟩,?_⟩;refine mJ (xs:=sgL m) (λx=>decide (x<=s)) #[0] (Qh e) ?_ ?_
 . intro x c g n d k2;show tOp _ _ _ [none,⇑x,⇑s] c g;exists k2 _ (P2 _)
 . intro o c i d a;exists nO a ?_;rw[R8];exact q _ (j.trans d)
def stpB(cs PM:∅)(z s:Int):Bool:=((ahdL cs z).any λo=>nogB s (PM.getD o.toNat 0))||((behL cs z).any λo=>nolB s (PM.getD o.toNat 0))
def stepB(cs PM:∅)(z s:Int)(ms:∅):Bool:=decide (ms=[])&&stpB cs PM z s
def ld(K:Frag)(c:Uk):Sp:=#[3,∃ k r p A M b cs PM ms n m z s,vs=[.ref r,.ref A,.int z,.int s,.ref M]/\IsRule H c k r p b cs n m/\aV cs PM.length/\z∈cs/\(∀ m∈PM,0<=m/\m<64)/\H A=↥(PM.map V.int)/\H M=↥(ms.map V.int)/\∀ a,Same H a->Q (.bl (stepB cs PM z s ms)) a]
def iK(K:Frag)(c:Uk):TS:=#[":gown'jaz&--13 yc,{Hcka0a2eh#1 H,{Ica3abi21eejdFPpjn'jaz&--13 yc,{Jcka0a2eh#1 H,{Kca3abi21ee"]
def lg(K:Frag)(c:Uk):TS:=#[":gombEc4uejdFCp{Lck"]
def uH {k:RK} {r p A M:Addr} {h:List (List Nat)} {n s:Int} (x:IsRule H c k r p h cs n m) (f:aV cs PM.length) (v:z∈cs) (w:∀ m∈PM,0<=m/\m<64) (I:H A=↥(PM.map V.int))
  (q:∀ C,Same H C->Q (.bl (stpB cs PM z s)) C):
  iK K c (eD9 Q) [↑r,↑A,⇑z,⇑s,↑M] H:=by
 have W:(ahdL cs z).length<=1:=by unfold ahdL;split <;> simp
 have T:(behL cs z).length<=1:=by unfold behL;split <;> simp
 unfold iK;rw[ax,az];exists⟨k,r,p,h,cs,n,m,z,rfl,x,f.1,v,λl U G Y D=>?_⟩;refine⟨l,rfl,⟨_,Qh D⟩,?_⟩;refine mJ (xs:=ahdL cs z) (λo=>nogB s (PM.getD o.toNat 0)) #[0] (Qh D) ?_ ?_
 . intro o F O t u k2;have a:=f.2 o (Kc v t);have e:=yU w a.1 a.2;show tCall _ _ _ _ [none,⇑o,↑A,⇑s] F O;exists ixI ((G.trans u) _ _ I) a.1 a.2 ?_;exact⟨s,_,rfl,e.1,e.2,k2⟩
 . intro X F R u j;exists FR j ?_;have b:=G.trans u;rw[Uh];unfold stpB at q;have N:(ahdL cs z).any (id ∘ λo=>nogB s (PM.getD o.toNat 0))=(ahdL cs z).any λo=>nogB s (PM.getD o.toNat 0):=rfl;rw[N]
   cases y:(ahdL cs z).any λo=>nogB s (PM.getD o.toNat 0) with
   | true=>
    rw[y,Sy]at q;refine⟨true,rfl,iteT ?_⟩;exists q _ b
   | false=>
    rw[y,Rq]at q;refine⟨false,rfl,iteF ?_⟩;exists⟨k,r,p,h,cs,n,m,z,rfl,x.same b,f.1,v,λJ H3 E L d=>?_⟩;refine⟨J,rfl,⟨_,Qh d⟩,?_⟩;refine mJ (xs:=behL cs z) (λo=>nolB s (PM.getD o.toNat 0)) #[0] (Qh d) ?_ ?_
    . intro o B S t g k4;have a:=f.2 o (Ke t);have e:=yU w a.1 a.2;show tCall _ _ _ _ [none,⇑o,↑A,⇑s] B S;exists ixI (((b.trans E).trans g) _ _ I) a.1 a.2 ?_;exact⟨s,_,rfl,e.1,e.2,k4⟩
    . intro Z B P g i;exists FR i ?_;rw[Uh];exact q _ ((b.trans E).trans g)
theorem yW(h:ld K c vs H Q E):lg K c (eD9 Q) (start ["rule","masks","cell","sign","more"] vs) H:=by
 obtain⟨k,r,p,A,M,o,cs,PM,ms,n,m,z,s,rfl,x,l,g,b,i,d,q⟩:=h;ac_nf;unfold lg;rw[ax,az];exists⟨aQ #[1],λZ f=>?_⟩;obtain⟨H1,z9,s1,eZ⟩:∃ z,upd H Z (.lst [])=z/\Same H z/\z Z=↥(([]:∅).map V.int):=aU _ f;rw[z9];refine yt (s1 _ _ d) eZ ?_;unfold stepB at q
 cases a:decide (ms=[]) with
 | false=>
  rw[a,P9]at q;refine⟨true,rfl,?_⟩;exists q _ s1
 | true=>
  rw[a,Qc]at q;refine⟨false,rfl,?_⟩;exists uH (x.same s1) l g b (s1 _ _ i) λj e=>q j (s1.trans e)
section
variable{X:Cx}
def minI(ns:∅):Int:=ns.getD (argBest (λi j=>decide (ns.getD i 0<ns.getD j 0)) (ns.length-1)) 0
def maxI(ns:∅):Int:=ns.getD (argBest (λi j=>decide (ns.getD i 0>ns.getD j 0)) (ns.length-1)) 0
end
def tE(xs:∅):xs.filter (λ_=>true)=xs:=RF.mpr λ_ _=>rfl
def loM(m:Int):Int:=(sgL m).getD 0 0
def hiM(m:Int):Int:=(sgL m).getD ((sgL m).length-1) 0
def Lz:((List.range 64).all λm=>decide (m=0)||(decide (0 < (sgL (m:Int)).length/\(sgL (m:Int)).length<=6)&&(decide (minI (sgL (m:Int))=loM (m:Int)/\maxI (sgL (m:Int))=hiM (m:Int))&&decide ((1<=loM (m:Int)/\loM (m:Int)<=6)/\1<=hiM (m:Int)/\hiM (m:Int)<=6))))=true:=by decide+kernel
def JB{m:Int}(a:0<=m)(b:m<64)(c:m≠0):(0 < (sgL m).length/\(sgL m).length<=6)/\(minI (sgL m)=loM m/\maxI (sgL m)=hiM m)/\(1<=loM m/\loM m<=6)/\1<=hiM m/\hiM m<=6:=by
 have t:=Qj.mp Lz m.toNat (Qf.mpr #[0]);have e1:((m.toNat:Nat):Int)=m:=by omega
 rw[e1,TZ,P6,Qy,Qy,P6,P6,P6]at t;rcases t with t | t
 . omega
 . exact t
def LA:sgL 0=[]:=by decide+kernel
def yX{xs:∅}(h:0<xs.length):atI (xs.map V.int) (-1)=some (V.int (xs.getD (xs.length-1) 0)):=by
 unfold atI ixN;rw[P0,Qp #[1],Qt #[0]];show(xs.map V.int)[((xs.length:Int)+ -1).toNat]? =_;rw[show((xs.length:Int)+ -1).toNat=xs.length-1 by omega,P5,P1 #[0],List.getD,P1 #[0]];rfl
def smB(os:∅)(n s:Int):Bool:=decide (0∈os)||(decide (n<s+(os.map loM).sum)||decide (s+(os.map hiM).sum<n))
def sumB(cs:∅)(n:Int)(PM:∅)(z s:Int)(ms:∅):Bool:=decide (ms=[])&&smB (sgAt PM (othL cs z)) n s
def gL(K:Frag):Sp:=#[3,∃(A:Addr) (ms:∅),vs=[.ref A]/\H A=↥(ms.map V.int)/\Q (.bl (decide (0∈ms))) H]
def sQ(K:Frag):TS:=#[":jbNcCdf#0 0"]
variable{K:Frag}{vs:List V}{H:Hp}{Q:VK}{E:XK}
def F2(h:gL K vs H Q E):sQ K (eD9 Q) (start ["masks"] vs) H:=by
 obtain⟨A,ms,rfl,a,q⟩:=h;exists sQ;rw[ot a];exact q
variable{cs:∅}
def Mg{PM:∅}{z:Int}(e:aV cs PM.length)(c:∀ m∈PM,0<=m/\m<64):∀ m∈sgAt PM (othL cs z),0<=m/\m<64:=λm b=>by
 unfold sgAt at b;obtain⟨x,d,rfl⟩:=Qe.mp b;have a:=e.2 x (QB.mp d).1;exact yU c a.1 a.2
def l9(K:Frag)(c:Uk):Sp:=#[3,∃ k r p A M b cs PM ms n m z s,vs=[.ref r,.ref A,.int z,.int s,.ref M]/\IsRule H c k r p b cs n m/\aV cs PM.length/\(∀ m∈PM,0<=m/\m<64)/\H A=↥(PM.map V.int)/\H M=↥(ms.map V.int)/\∀ a,Same H a->Q (.bl (sumB cs n PM z s ms)) a]
def jj(K:Frag)(c:Uk):TS:=#[":glbv3n~Iaz&-- yc5h#1 Hbi,~pca1edf#0 eh#6 glbv3n~Iaz&-- yc5h#1 Hbi,~pca1e~*`0df#1 eh#7 j~Ab>6DkK~Y~Zck0eb<7DkK~Y~Zck0e",(rU λi=>.int (-i))]
def jk(K:Frag)(c:Uk):TS:=#[":gl,~oca1a,~ncka0a2eeh#5 gow,~Jca5ejdFPp{Mck"]
def ma(K:Frag)(c:Uk):TS:=#[":gombEc4uejdFCp{Nck"]
variable{c:Uk}
def we {k:RK} {r p A M B:Addr} {w:List (List Nat)} {os:∅} {n m z s:Int} (x:IsRule H c k r p w cs n m) (U:os.length<=63) (d:∀ m∈os,0<=m/\m<64) (P:¬ 0∈os) (t:H B=↥(os.map V.int))
  (q:∀ J,Same H J->Q (.bl (decide (n<s+(os.map loM).sum)||decide (s+(os.map hiM).sum<n))) J):
  jj K c (eD9 Q) [↑r,↑A,⇑z,⇑s,↑M,↑B,none,none] H:=by
 have u:∀ y∈os,_:=λy a=>JB (d y a).1 (d y a).2 (λe=>P (e ▸ a));unfold jj;exists⟨⟨_,Qh t⟩,?_⟩;refine bc (xs:=os) (λ_=>true) loM #[0] (Qh t) ?_ ?_ ?_
 . intro y D R a j k1;exact k1 _ (P2 _)
 . intro y D O a f j k1;have I:=u y a;show tOp cIx _ _ [none,⇑y] D O;exists⟨y,rfl,by have:=(jD (d y a).1 (d y a).2);have:=this.1;omega,λl v i E F=>?_⟩;refine ixI F #[1] #[0] ?_;exact k1 _ i
 . intro X D T j o;rw[tE]at o;exists vR o (λy a=>by obtain⟨z,G,rfl⟩:=Qe.mp a;have:=(u z G).2.2.1;omega) (by rw[P0];omega) ?_;exists⟨⟨_,Qh (j _ _ t)⟩,?_⟩;refine bc (xs:=os) (λ_=>true) hiM #[0] (Qh (j _ _ t)) ?_ ?_ ?_
   . intro y v R a i k2;exact k2 _ (P2 _)
   . intro y v N a f i k2;have I:=u y a;show tOp cIx _ _ [none,⇑y] v N;exists⟨y,rfl,by have:=(jD (d y a).1 (d y a).2);have:=this.1;omega,λl H3 S L F=>?_⟩;refine ixL F (yX I.1.1) ?_;exact k2 _ S
   . intro Z v E i h;rw[tE]at h;exists vR h (λy a=>by obtain⟨z,G,rfl⟩:=Qe.mp a;have:=(u z G).2.2.2;omega) (by rw[P0];omega) ?_;symm;have b:=j.trans i;have g:=x.same b;obtain⟨Y,W,C,h1,h2,h3⟩:=g.ex;refine methE (k:=k) rfl g.ok h1 (by rfl) ?_;exists⟨r,p,w,cs,n,m,rfl,g,?_⟩;symm;by_cases f:n<s+(os.map loM).sum
     . rw[P4 f,Sy]at q;rw[P4 f];exists q _ b
     . rw[P3 f,Rq]at q;rw[P3 f];exists methE (k:=k) rfl g.ok h1 (by rfl) ?_;exists⟨r,p,w,cs,n,m,rfl,g,?_⟩;exists q _ b
def wf {k:RK} {r p A M:Addr} {g:List (List Nat)} {PM:∅} {n m z s:Int} (x:IsRule H c k r p g cs n m) (e:aV cs PM.length) (o:∀ m∈PM,0<=m/\m<64) (w:H A=↥(PM.map V.int))
  (q:∀ d,Same H d->Q (.bl (smB (sgAt PM (othL cs z)) n s)) d):
  jk K c (eD9 Q) [↑r,↑A,⇑z,⇑s,↑M,none,none,none] H:=by
 have b:aV (othL cs z) PM.length:=⟨Qa (Qk _ _) e.1,λy l=>e.2 y (QB.mp l).1⟩;have j:(sgAt PM (othL cs z)).length<=63:=by unfold sgAt;rw[P0];exact b.1
 have i:=Mg (z:=z) e o;unfold jk;exists⟨k,r,p,g,cs,n,m,z,rfl,x,e.1,λO D h C u=>?_⟩;exists⟨A,O,PM,othL cs z,rfl,h _ _ w,u,b,λB F v E f=>?_⟩;have a:=h.trans v;generalize sgAt PM (othL cs z)=os at*;symm;rw[az];exists⟨B,os,rfl,f,?_⟩;unfold smB at q;by_cases h0:0∈os
 . rw[P4 h0,Sy]at q;rw[P4 h0];refine⟨true,rfl,?_⟩;exists q _ a
 . rw[P3 h0,Rq]at q;rw[P3 h0];refine⟨false,rfl,?_⟩;exists we (x.same a) j i h0 f λd t=>q d (a.trans t)
theorem Aj(h:l9 K c vs H Q E):ma K c (eD9 Q) (start ["rule","masks","cell","sign","more","some","least","greatest"] vs) H:=by
 obtain⟨k,r,p,A,M,l,cs,PM,ms,n,m,z,s,rfl,x,j,b,g,d,q⟩:=h;ac_nf;unfold ma;rw[ax,az];exists⟨aQ #[1],λZ f=>?_⟩;obtain⟨H1,z9,s1,eZ⟩:∃ z,upd H Z (.lst [])=z/\Same H z/\z Z=↥(([]:∅).map V.int):=aU _ f;rw[z9];refine yt (s1 _ _ d) eZ ?_;unfold sumB at q
 cases a:decide (ms=[]) with
 | false=>
  rw[a,P9]at q;refine⟨true,rfl,?_⟩;exists q _ s1
 | true=>
  rw[a,Qc]at q;refine⟨false,rfl,?_⟩;exists wf (x.same s1) j b (s1 _ _ g) λi e=>q i (s1.trans e)
def HH(t:TK):decide (tkC t=[115,117,109])=decide (t=.sum):=by cases t <;> decide
def CU{p q:Addr}{D:PyData}(c:DV K H (.ref p) D)(b:DV K H (.ref q) D)(a:SeqAt.shaped D=true)(d:PyData.eqv D D=true)(h:Q (.bl false) H):cNe K (.ref p) (.ref q) H Q:=by
 show rNeD K (.ref p) (.ref q) H Q;refine⟨D,D,c,b,a,a,?_⟩;rw[d];exact h
def Bx(xs:∅):PyData.eqv (.list (xs.map PyData.int)) (.list (xs.map PyData.int))=true:=by
 rw[PyData.eqv,se];simp
def n9(n:Int):PyData.eqv (.int n) (.int n)=true:=by
 rw[PyData.eqv];simp
def uI(K:Frag)(c:Uk):Sp:=fW K c .Sum
def oS(K:Frag)(c:Uk):TS:=#[":jbscn~IaDkK~O~Pck0a1eeVk0~v"]
def LB{xs:∅}{n:Nat}(f:aV cs n)(g:n=xs.length)(d:∀ x∈xs,0<=x/\x<=1000):∀ x∈sgAt xs cs,0<=x/\x<=1000:=λx b=>by
 unfold sgAt at b;obtain⟨c,e,rfl⟩:=Qe.mp b;have:=f.2 c e;have a:c.toNat<xs.length:=by omega
 rw[List.getD,P1 a];exact d _ (QE a)
def CV(h:uI K c vs H Q E):oS K c (eD9 Q) (start ["self","filling"] vs) H:=by
 obtain⟨r,p,f,k,cs,xs,n,m,h,w,g,rfl,x,u,F,e,a,j,q⟩:=h;obtain⟨o,W,C,h1,h2,h3⟩:=x.ex;exists oS;refine methE rfl x.ok h1 (by rfl) ?_;exists⟨r,p,f,k,cs,xs,n,m,rfl,x,e,a,λl t b s i=>?_⟩;have z:(sgAt xs cs).length<=100:=by unfold sgAt;rw[P0];exact Qa a.1 #[1]
 exists vR i (λy d=>by have:=LB a rfl j y d;omega) #[0] ?_;refine fldE rfl x.ok (b _ _ h1) (v:=.int n) (by rfl) ?_;exists q _ b
theorem Ff:∀ l:∅,risB l=(List.range (l.length-1)).all λi=>decide (l.getD i 0<l.getD (i+1) 0)
 | []=>rfl
 | [x]=>rfl
 | x::y::r=>by
  have a:=Ff (y::r);show(decide (x<y)&&risB (y::r))=(List.range (r.length+1)).all λi=>decide ((x::y::r).getD i 0 < (x::y::r).getD (i+1) 0);rw[a,List.range_succ_eq_map,SU,R8];rfl
def pH(K:Frag)(c:Uk):Sp:=fW K c .Rising
def li(K:Frag)(c:Uk):TS:=#[":glDkK~O~Pck0a1eh#2 jn~aaz&--2 *abInxa2edf#1 eh#1 Hb<bi21bi2bv1df#1 e"]
def yY(h:pH K c vs H Q E):li K c (eD9 Q) (start ["self","filling","signs"] vs) H:=by
 obtain⟨r,p,f,t,cs,xs,n,m,h,w,g,rfl,x,O,F,v,o,G,q⟩:=h;obtain⟨L,W,C,h1,h2,h3⟩:=x.ex;exists li;refine methE rfl x.ok h1 (by rfl) ?_;exists⟨r,p,f,t,cs,xs,n,m,rfl,x,v,o,λl J B N d=>?_⟩;have D:(sgAt xs cs).length<=100:=by unfold sgAt;rw[P0];exact Qa o.1 #[1]
 have A:∀ k,Same H k->Q (.bl (risB (sgAt xs cs))) k:=q;generalize sgAt xs cs=sg at*;symm;rw[aO d,P0];exists⟨_,rfl,by omega,by omega,?_⟩;have z:((sg.length:Int)-1).toNat=sg.length-1:=by omega
 rw[z];refine wB (λ_=>true) (λi=>.bl (decide (sg.getD i 0<sg.getD (i+1) 0))) #[0] ?_ ?_ ?_
 . intro i j R s b k2;exact k2 _ (P2 _)
 . intro i j u s I b k2;show tOp _ _ _ [none,⇑(0+(i:Int)),↑l] j u;rw[Rs];exists ixI (b _ _ d) #[0] #[0] ?_;refine ixI (b _ _ d) #[0] #[0] ?_;symm;have e1:(i:Int).toNat=i:=by omega
   have e2:((i:Int)+1).toNat=i+1:=by omega
   rw[e1,e2];exact k2 _ (P2 _)
 . intro M j y b a;rw[bq]at a;refine nO (bs:=(List.range (sg.length-1)).map λi=>decide (sg.getD i 0<sg.getD (i+1) 0)) (by rw[a,QO];rfl) ?_
   have e:((List.range (sg.length-1)).map λi=>decide (sg.getD i 0<sg.getD (i+1) 0)).all id=risB sg:=by
    rw[Ff,R8];rfl
   rw[e];exact A _ (B.trans b)
def Je(l:∅)(x:Int):seenN (l++[x])=if (seenN l).1<x then(x,(seenN l).2+1) else seenN l:=by
 unfold seenN;rw[Tu];rfl
def tF(K:Frag)(c:Uk):Sp:=fW K c .Seen
def nr(K:Frag)(c:Uk):TS:=#[":gldf#0 h#2 gldf#0 h#3 gTycDkK~O~Pck0a1eh#4 omb>42gl4h#2 lbv3df#1 h#3 pjbsc3Vk0~v"]
def By(h:tF K c vs H Q E):nr K c (eD9 Q) (start ["self","filling","greatest","seen","sign"] vs) H:=by
 obtain⟨r,p,f,I,cs,xs,n,m,h,w,g,rfl,x,M,F,B,G,N,q⟩:=h;obtain⟨J,W,C,h1,h2,h3⟩:=x.ex;exists nr;refine methE rfl x.ok h1 (by rfl) ?_;exists⟨r,p,f,I,cs,xs,n,m,rfl,x,B,G,λl D o L s=>?_⟩;have A:∀ d,Same H d->Q (.bl (decide ((seenN (sgAt xs cs)).2=n))) d:=q;generalize sgAt xs cs=sg at*;exists⟨⟨_,Qh s⟩,dF (K:=K) (xs:=sg.map V.int) (λi σ d=>∃ k:Option V,σ=[↑r,↑f,some (.int (seenN (sg.take i)).1),some (.int (seenN (sg.take i)).2),k]/\d=D) ⟨none,rfl,rfl⟩ (λi σ d _ ⟨_,_,e⟩=>by rw[e];exact Qh s) ?_ ?_⟩
 . rintro i y σ u a ⟨k,rfl,rfl⟩;rw[P5]at a
   cases e:sg[i]? with
   | none=>rw[e]at a;cases a
   | some z=>
    rw[e]at a;cases a;have t:sg.take (i+1)=sg.take i++[z]:=by rw[Sf,e];rfl
    have b:=Je (sg.take i) z;rw[← t]at b;symm;rw[az];symm;by_cases j:(seenN (sg.take i)).1<z
    . rw[P4 j];rw[Qt j]at b;refine iteT ?_;rw[b];exact⟨_,rfl,by first | trivial | rfl⟩
    . rw[P3 j];rw[Qp j]at b;refine iteF ?_;rw[b];exact⟨_,rfl,by first | trivial | rfl⟩
 . rintro σ u ⟨k,rfl,rfl⟩;rw[P0,R1];exists fldE rfl x.ok (o _ _ h1) (v:=.int n) (by rfl) ?_;exists A _ o
def qZ(K:Frag)(c:Uk):Sp:=λvs H Q E=>∃ k,ko K c k vs H Q E
def md(K:Frag)(c:Uk):TS:=#[":jz&--10 'ycVk0~Nh#1 mbscbi21Vk3'b1"]
def Ak(h:qZ K c vs H Q E):md K c (eD9 Q) (start ["self","filling"] vs) H:=by
 obtain⟨k,r,p,f,w,cs,xs,n,m,rfl,x,g,⟨s,j⟩,q⟩:=h;obtain⟨o,W,C,h1,h2,h3⟩:=x.ex;ac_nf;unfold md;rw[cH,E7];refine fldE rfl x.ok h1 (v:=.ref C) (by rfl) ?_;refine⟨C,rfl,⟨_,Ud h3⟩,?_⟩;refine AY (xs:=cs) (λc=>decide (xs.getD c.toNat 0=m)) (λc=>c) #[0] h3 ?_ ?_ ?_
 . intro z b R d a k1;show tTest _ [none,⇑z,↑f,↑r] b R;symm;have:=j z d;refine ixI (a _ _ g) this.1 #[0] ?_;refine fldE rfl x.ok (a _ _ h1) (v:=.int m) (by rfl) ?_;exists k1 _ (P2 _)
 . intro z b u d t a k1;exact k1 _ (P2 _)
 . intro l b i a e;rw[Rz]at e;exact q l b a i e
def ra(K:Frag)(c:Uk):Sp:=fW K c .Count
def me(K:Frag)(c:Uk):TS:=#[":jbscnxaDkK~+~-ck0a1eeVk0~v"]
def Al(h:ra K c vs H Q E):me K c (eD9 Q) (start ["self","filling"] vs) H:=by
 obtain⟨r,p,f,i,cs,xs,n,m,h,w,g,rfl,x,s,F,b,d,t,q⟩:=h;obtain⟨j,W,C,h1,h2,h3⟩:=x.ex;exists me;refine methE rfl x.ok h1 (by rfl) ?_;exists⟨r,p,f,i,cs,xs,n,m,rfl,x,b,d,λl o a k e=>?_⟩;symm;rw[aO e,P0];refine fldE rfl x.ok (a _ _ h1) (v:=.int n) (by rfl) ?_;exists q _ a
def oU(K:Frag):Sp:=#[3,∃(S M:Addr) (a ms:∅),vs=[.ref S,.ref M]/\H S=↥(a.map V.int)/\H M=↥(ms.map V.int)/\a.length<=100/\∀ b,Same H b->Q (.bl (a.all λc=>decide (c∈ms))) b]
def oV(K:Frag):TS:=#[":jn~aaz&--1 yc0h#1 HbNcC12e"]
variable{vs:List V}
def CW{K:Frag}{H:Hp}{Q:VK}{E:XK}(h:oU K vs H Q E):oV K (eD9 Q) (start ["some","cells"] vs) H:=by
 obtain⟨S,M,a,ms,rfl,j,n,r,q⟩:=h;exists oV;refine⟨⟨_,Qh j⟩,?_⟩;refine bM (xs:=a.map V.int) (λ_=>true) (λi=>.bl (decide (a.getD i 0∈ms))) (by rw[P0];omega) (Qh j) ?_ ?_ ?_
 . intro i x g R d f k1;exact k1 _ (P2 _)
 . intro i x g m d p f k1;rw[P5]at d
   cases e:a[i]? with
   | none=>rw[e]at d;cases d
   | some z=>
    rw[e]at d;cases d;have k2:=k1 _ (P2 g);rw[List.getD,e]at k2;show tOp (cIn K false) _ _ [none,⇑z,↑M] g m;symm;rw[ot (f _ _ n)];exact k2
 . intro l g s f k;rw[bq,P0]at k;refine nO (bs:=(List.range a.length).map λi=>decide (a.getD i 0∈ms)) (by rw[k,QO];rfl) ?_
   have e:((List.range a.length).map λi=>decide (a.getD i 0∈ms)).all id=a.all λc=>decide (c∈ms):=by
    rw[R8,Qx,Qj,Qj];constructor
    . intro h c o;obtain⟨i,b,rfl⟩:=RP.mp o;have:=h i (Qf.mpr b);dsimp only[Function.comp,id]at this;rw[List.getD,P1 b]at this;exact this
    . intro h i b;have b:=Qf.mp b;have:=h _ (QE b);dsimp only[Function.comp,id];rw[List.getD,P1 b];exact this
   rw[e];exact q _ f
def nG(K:Frag)(c:Uk):Sp:=fW K c .NoSquare
def Kf{h w g:Int}(F:FlOk h w g):(squL h w).length<=16:=by
 obtain⟨h0,h1,b,e,a,d,c⟩:=F;unfold squL;rw[P0];refine Qa (Qk _ _) ?_;rw[QU];omega
def jm(K:Frag)(c:Uk):TS:=#[":glDkK~+~-ck0a1eh#2 j~zn'jaz&--2 yc,'JcaVk0~feh#1 H,{Oca1a2ee"]
def wg{K:Frag}{c:Uk}{H:Hp}{Q:VK}{E:XK}(h:nG K c vs H Q E):jm K c (eD9 Q) (start ["self","filling","cells"] vs) H:=by
 obtain⟨r,p,f,T,cs,xs,n,m,h,w,g,rfl,x,ha,F,U,hC,S,q⟩:=h;obtain⟨dx,W,C,h1,h2,h3⟩:=x.ex;exists jm;refine methE rfl x.ok h1 (by rfl) ?_;exists⟨r,p,f,T,cs,xs,n,m,rfl,x,U,hC,λl H1 G hl Z=>?_⟩;exists fldE rfl x.ok (G _ _ h1) (v:=.ref p) (by rfl) ?_;exists⟨p,h,w,g,rfl,G _ _ ha,F,λL X H2 N hL d _ _ _=>?_⟩;have sl:=Kf F;refine⟨L,rfl,⟨_,Qh d.top⟩,?_⟩;refine bM (xs:=X.map V.ref) (λ_=>true) (λi=>.bl (((squL h w).getD i []).all λc=>decide (c∈mkAt xs cs m))) (by rw[P0,d.len];omega) (Qh d.top) ?_ ?_ ?_
 . intro i x I R S s k3;exact k3 _ (P2 _)
 . intro i y I O a u s k3;obtain⟨b,u,rfl⟩:=bL a;have k:i < (squL h w).length:=by rw[← d.len];exact(P8.mp u).1
   have e:=P1 k;have o:(squL h w).getD i []=(squL h w)[i]:=by rw[List.getD,e];rfl
   have B:((squL h w)[i]).length<=100:=by
    have A:=QE k;generalize (squL h w)[i]=z at A;unfold squL at A;obtain⟨j,_,rfl⟩:=Qe.mp A;show 4<=100;decide
   show tCall _ _ _ _ [none,↑b,↑l] I O;exists⟨b,l,_,_,rfl,s _ _ (d.at_ i b _ u e),s _ _ (N _ _ Z),B,λY P=>?_⟩;have:=k3 Y P;rw[o]at this;exact this
 . intro D I hD s J;rw[bq,P0,d.len]at J;refine FR (bs:=(List.range (squL h w).length).map λi=>((squL h w).getD i []).all λc=>decide (c∈mkAt xs cs m)) (by rw[J,QO];rfl) ?_
   have e:((List.range (squL h w).length).map λi=>((squL h w).getD i []).all λc=>decide (c∈mkAt xs cs m)).any id=(squL h w).any λM=>M.all λc=>decide (c∈mkAt xs cs m):=by
    rw[Uh,Qx,RZ,RZ];constructor
    . rintro⟨i,a,t⟩;have a:=Qf.mp a;dsimp only[Function.comp,id]at t;have o:(squL h w).getD i []=(squL h w)[i]:=by rw[List.getD,P1 a];rfl
      rw[o]at t;exact⟨_,QE a,t⟩
    . rintro⟨M,hs,t⟩;obtain⟨i,a,rfl⟩:=RP.mp hs;refine⟨i,Qf.mpr a,?_⟩;dsimp only[Function.comp,id];have o:(squL h w).getD i []=(squL h w)[i]:=by rw[List.getD,P1 a];rfl
      rw[o];exact t
   rw[e];exists q _ ((G.trans N).trans s)
def lj(K:Frag):Sp:=#[3,∃ a l h w g c cs,vs=[.ref a,.ref l,.int c]/\IsFl H a h w g/\0<w/\w<100/\H l=↥(cs.map V.int)/\cs.length<=63/\
 ∀(p:Addr) (b:Hp) (rs:∅),Same H b->H p=none->b p=↥(rs.map V.int)->rs.Pairwise (· < ·)->(∀ x,x∈rs↔RC h w cs c x)->Q (.ref p) b]
def sR(K:Frag):TS:=#[":gombNcP21juepglua2eh#3 gldf#0 h#4 g'kmb<4nxa3egTyc,~Kca0abi34eh#5 oWmbNcC51mbNcP53ZRcQ:3a5eplbv4df#1 h#4 jn{Pa3e"]
variable{K:Frag}{vs:List V}{H:Hp}{Q:VK}{E:XK}
def F3(h:lj K vs H Q E):sR K (eD9 Q) (start ["floor","cells","start","found","place","cell"] vs) H:=by
 obtain⟨a,l,h,w,g,n,cs,rfl,ha,w0,w1,hl,hn,k⟩:=h;ac_nf;unfold sR;rw[ax,az];symm;rw[jJ hl];symm;by_cases P:n∈cs
 . rw[Qp (by simpa using P)];exists⟨lnR rfl,λf hf=>?_⟩
   refine⟨λm σ t=>∃(j:∅) (d:Nat) (u:Option V),σ=[↑a,↑l,⇑n,↑f,⇑d,u]/\Same H t/\t f=↥(j.map V.int)/\BI h w cs n j d/\m=cs.length-d,
    ⟨_,[n],0,none,rfl,(P2 H).laid hf,ai,BI.start P,rfl⟩,?_⟩
   rintro m σ H1 ⟨j,d,u,rfl,R,e1,B,rfl⟩;have ac:=B.len;symm;rw[aO e1,P0];symm;by_cases A:d<j.length
   . rw[Qt (by simpa using A)];obtain⟨x,I⟩:∃ x,j[d]? =some x:=⟨j[d],by simp[A]⟩;have rx:RC h w cs n x:=B.rc x (Qi I)
     refine⟨λσ t=>∃(j:∅) (u:Option V),σ=[↑a,↑l,⇑n,↑f,⇑((d:Int)+1),u]/\Same H t/\t f=↥(j.map V.int)/\BI h w cs n j (d+1),
      λσ' t ⟨X,Z,e,s',e',B'⟩=>⟨_,by omega,X,d+1,Z,by rw[e];rfl,s',e',B',rfl⟩,?_⟩
     symm;rw[Jx e1];refine bt (xk #[0] #[0]) ?_;symm;rw[show((d:Int)).toNat=d from QV _,ja I];refine⟨a,h,w,g,x,rfl,R _ _ ha,w0,w1,λb H2 s2 Y e2=>?_⟩;have ab:=R.trans s2
     refine⟨b,rfl,⟨_,Qh e2⟩,dF (K:=K) (xs:=(besL h w x).map V.int) (λi σ t=>∃(s:∅) (u:Option V),σ=[↑a,↑l,⇑n,↑f,⇑d,u]/\Same H t/\t b=↥((besL h w x).map V.int)/\t f=↥(s.map V.int)/\BJ h w cs n j d ((besL h w x).take i) s)
      ⟨j,u,rfl,ab,e2,s2 _ _ e1,BJ.zero B⟩ (λi σ t _ ⟨_,_,_,_,q,_⟩=>Qh q) ?_ ?_⟩
     . rintro i y σ T L ⟨s,G,rfl,O,eb,C,J⟩;rw[P5]at L
       cases S:(besL h w x)[i]? with
       | none=>rw[S]at L;cases L
       | some z=>
        rw[S]at L;cases L;have W:s.length<=63:=Qa (kG J.nd λx I=>(J.rc x I).mem) hn;have M:z∈besL h w x:=Qi S;have v:(besL h w x).take (i+1)=(besL h w x).take i++[z]:=by rw[List.take_add_one,S];rfl
        have J2:=J.more rx M;rw[← v]at J2;symm;rw[az];symm;rw[ot (O _ _ hl)];symm
        have fin:∀ D:Hp,D f=↥((addC cs s z).map V.int)->(∀ c,c≠f->D c=T c)->∃(s:∅) (u:Option V),[some (V.ref a),↑l,⇑n,↑f,⇑d,⇑z]=[↑a,↑l,⇑n,↑f,⇑d,u]/\Same H D/\D b=↥((besL h w x).map V.int)/\D f=↥(s.map V.int)/\BJ h w cs n j d ((besL h w x).take (i+1)) s:=λD q1 q2=>
         ⟨_,_,rfl,λc o e=>by rw[q2 c (aD e hf)];exact O c o e,by rw[q2 b (λe=>by rw[e]at Y;rw[e1]at Y;cases Y)];exact eb,q1,J2⟩
        by_cases U:z∈cs
        . rw[Qt (by simpa using U)];rw[jJ C];by_cases N:z∈s
          . simp only[N,decide_true,RH,Qp P7,V.bl.injEq,exists_eq_left'];refine fin T ?_ λ_ _=>rfl;rw[C,addC,Qp (λq=>q.2 N)]
          . simp only[N,decide_false,Sg,Uf,V.bl.injEq,exists_eq_left'];exists⟨cC C,?_⟩;rw[lZ C];refine⟨by rw[P0];exact aL #[0],fin _ ?_ λc hc=>ap hc⟩;rw[ai,addC,Qt ⟨U,N⟩];simp
        . rw[Qp (by simpa using U)]
          try simp only[Qp P7]
          refine fin T ?_ λ_ _=>rfl;rw[C,addC,Qp (λq=>U q.1)]
     . rintro σ T ⟨s,G,rfl,O,eb,C,J⟩;rw[P0,R1]at J;exists⟨s,G,rfl,O,C,J.done B I⟩
   . rw[Qp (by simpa using A)];symm;unfold vN;dsimp only;rw[e1];refine⟨j,rfl,by omega,λrs p F pm ps=>?_⟩;refine k p _ rs (R.laid F) (R.free F) ai (Hk pm ps B.nd) λx=>?_;rw[pm.mem_iff];exact B.done A x
 . rw[Qt (by simpa using P)];exists⟨QI _,λp A=>k p _ [] ((P2 H).laid A) A ai .nil λx=>⟨(λq=>nomatch q),λr=>absurd (RC.st r) P⟩⟩
variable{h w:Int}{ms:∅}
def joinB_iff:joinB h w ms=true↔(ms=[]\/(ms.Pairwise (· < ·)/\∀ x∈ms,RC h w ms (ms.headD 0) x)):=by
 unfold joinB;exact @decide_eq_true_iff _ (Classical.propDecidable _)
def lP(K:Frag)(c:Uk):Sp:=λvs H Q E=>∃ k,kI K c k vs H Q E
def ib(K:Frag)(c:Uk):TS:=#[":j~Absc1uebsc,'lcaVk0~fa1abi1df#0 e1"]
variable{c:Uk}
theorem tU(h:lP K c vs H Q E):ib K c (eD9 Q) (start ["self","cells"] vs) H:=by
 obtain⟨k,r,p,C,O,cs,ms,n,m,h,w,g,rfl,x,L,F,f,D,q⟩:=h;obtain⟨h0,G,U,N,A,R,P⟩:=id F;obtain⟨S,W,M,h1,h2,h3⟩:=x.ex;exists ib;refine⟨lnR rfl,λl I=>?_⟩;obtain⟨H1,z9,s1,el⟩:∃ z,upd H l (.lst [])=z/\Same H z/\z l=↥(([]:∅).map V.int):=aU _ I;rw[z9];refine pr (s1 _ _ f) el ?_;symm
 cases ms with
 | nil=>
  have e:joinB h w []=true:=joinB_iff.mpr (.inl rfl);have:=q _ s1;rw[e]at this;rw[P4 rfl,Qt rfl];exact this
 | cons z s=>
  rw[P3 (by simp),Qp #[1]];refine fldE rfl x.ok (s1 _ _ h1) (v:=.ref p) (by rfl) ?_;exists ixL (s1 _ _ f) (v:=V.int z) (dS (j:=0) rfl) ?_;exists⟨p,C,h,w,g,z,z::s,rfl,s1 _ _ L,by omega,by omega,s1 _ _ f,D,λu X rs t T J a b=>?_⟩;refine pr J (t _ _ (s1 _ _ f)) ?_
  have e:decide (rs=z::s)=joinB h w (z::s):=by
   rw[Qx,P6,joinB_iff];constructor
   . intro e;subst e;exact .inr ⟨a,λx B=>(b x).mp B⟩
   . rintro(e | ⟨d,o⟩)
     . cases e
     . exact yy a d λy=>⟨λi=>((b y).mp i).mem,λi=>(b y).mpr (o y i)⟩
  rw[e];exact q _ (s1.trans t)
def pI(K:Frag)(c:Uk):Sp:=fW K c .Joined
def lp(K:Frag)(c:Uk):TS:=#[":jDkK'K'Lck0aDkK~+~-ck0a1ee"]
variable{xs cs:∅}{m:Int}
def HI(a:cs.length<=63):(mkAt xs cs m).length<=63:=by
 unfold mkAt;exact Qa (Qk _ _) a
def yZ(h:pI K c vs H Q E):lp K c (eD9 Q) (start ["self","filling"] vs) H:=by
 obtain⟨r,p,f,d,cs,xs,n,m,h,w,g,rfl,x,j,F,i,b,v,q⟩:=h;obtain⟨o,W,C,h1,h2,h3⟩:=x.ex;exists lp;refine methE rfl x.ok h1 (by rfl) ?_;exists methE rfl x.ok h1 (by rfl) ?_;exists⟨r,p,f,d,cs,xs,n,m,rfl,x,i,b,λl u a t k=>?_⟩;exact⟨r,p,l,d,cs,_,n,m,h,w,g,rfl,x.same a,a _ _ j,F,k,HI b.1,λs e=>q _ (a.trans e)⟩
def jE(K:Frag)(c:Uk):Sp:=jd K c .Ring
def fY(K:Frag)(c:Uk):TS:=#[":jbscnxaz&--1 yc,~KcaVk0~fa2eh#1 mbNcC121edf#2 "]
def Kg(h w c:Int):(besL h w c).length<=4:=by
 unfold besL
 repeat rw[Qn]
 split <;> split <;> split <;> split <;> simp
def qw(h:jE K c vs H Q E):fY K c (eD9 Q) (start ["self","cells","cell"] vs) H:=by
 obtain⟨r,p,C,G,cs,ms,n,m,h,w,g,z,rfl,x,u,F,t,I,q⟩:=h;obtain⟨h0,s,O,D,j,L,J⟩:=id F;obtain⟨M,W,B,h1,h2,h3⟩:=x.ex;exists fY;refine fldE rfl x.ok h1 (v:=.ref p) (by rfl) ?_;exists⟨p,h,w,g,z,rfl,u,by omega,by omega,λb P i o e2=>?_⟩;have bl:=Kg h w z;refine⟨b,rfl,⟨_,Qh e2⟩,?_⟩;refine bc (xs:=besL h w z) (λy=>decide (y∈ms)) (λy=>y) #[0] (Qh e2) ?_ ?_ ?_
 . intro y d R k a k3;show tTest _ [none,⇑y,↑C] d R;symm;rw[ot (a _ _ (i _ _ t))];exact⟨_,rfl,k3 _ (P2 _)⟩
 . intro y d A k o a k3;exact k3 _ (P2 _)
 . intro l d N a f;rw[Rz]at f;symm;rw[aO f,P0];symm;have:=q _ (i.trans a);unfold twoB at this
   have e:decide ((((besL h w z).filter λy=>decide (y∈ms)).length:Int)=2)=decide (((besL h w z).filter λy=>decide (y∈ms)).length=2):=by
    rw[Qx,P6,P6];omega
   rw[e];exact this
def tG(K:Frag)(c:Uk):Sp:=fW K c .Ring
def nt(K:Frag)(c:Uk):TS:=#[":glDkK~+~-ck0a1eh#2 jGDkK'K'Lck0a2en~aaz&--20 yc2h#1 HDkK{Q{Rck3a2a1ee"]
theorem BA(h:tG K c vs H Q E):nt K c (eD9 Q) (start ["self","filling","cells"] vs) H:=by
 obtain⟨r,p,f,A,cs,xs,n,m,h,w,g,rfl,x,L,F,O,J,U,q⟩:=h;obtain⟨Z,W,C,h1,h2,h3⟩:=x.ex;exists nt;refine methE rfl x.ok h1 (by rfl) ?_;exists⟨r,p,f,A,cs,xs,n,m,rfl,x,O,J,λl Y v hl t=>?_⟩;have j:=HI (xs:=xs) (m:=m) J.1;have s:∀ I,Same H I->Q (.bl (joinB h w (mkAt xs cs m)&&(mkAt xs cs m).all (twoB h w (mkAt xs cs m)))) I:=q;generalize mkAt xs cs m=ms at*;exists methE rfl x.ok (v _ _ h1) (by rfl) ?_;exists⟨r,p,l,A,cs,ms,n,m,h,w,g,rfl,x.same v,v _ _ L,F,t,j,λH2 u=>?_⟩;have a:=v.trans u;symm
 cases D:joinB h w ms with
 | false=>
  rw[D]at s
  first | exact iteF (s _ a) | exact s _ a
 | true=>
  rw[D]at s;refine iteT ?_;refine⟨⟨_,Qh (u _ _ t)⟩,?_⟩;refine bM (xs:=ms.map V.int) (λ_=>true) (λi=>.bl (twoB h w ms (ms.getD i 0))) (by rw[P0];omega) (Qh (u _ _ t)) ?_ ?_ ?_
  . intro i y B R d o k3;exact k3 _ (P2 _)
  . intro i y B M d X o k3;rw[P5]at d
    cases e:ms[i]? with
    | none=>rw[e]at d;cases d
    | some z=>
     rw[e]at d;cases d;have b:=a.trans o;have P:ms.getD i 0=z:=by rw[List.getD,e];rfl
     show aM _ _ _ _ _ _ [none,⇑z,↑l,↑r] B M;refine methE rfl x.ok (b _ _ h1) (by rfl) ?_;exists⟨r,p,l,A,cs,ms,n,m,h,w,g,z,rfl,x.same b,b _ _ L,F,o _ _ (u _ _ t),j,λS N=>?_⟩;have:=k3 S N;rw[P]at this;exact this
  . intro l2 B T o k;rw[bq,P0]at k;refine nO (bs:=(List.range ms.length).map λi=>twoB h w ms (ms.getD i 0)) (by rw[k,QO];rfl) ?_
    have e:((List.range ms.length).map λi=>twoB h w ms (ms.getD i 0)).all id=ms.all (twoB h w ms):=by
     have G:(List.range ms.length).map (λi=>ms.getD i 0)=ms:=by
      refine List.ext_getElem (by simp) λi h1 h2=>?_;simp at h1;simp[List.getD,P1 h1]
     have e2:(List.range ms.length).map (λi=>twoB h w ms (ms.getD i 0))=ms.map (twoB h w ms):=by
      rw[← G,QO,G];rfl
     rw[e2,R8];rfl
    rw[e];exact s _ (a.trans o)
variable{α:Type}
def Jf(F:Int->α)(a:∅):(List.range a.length).map (λi=>F (a.getD i 0))=a.map F:=by
 refine Rp λi=>?_;rw[P5,P5];by_cases h:i<a.length
 . rw[Ra h,P1 h];simp[List.getD,h]
 . rw[Qr (by simpa using h),Qr #[0]];rfl
variable{i:Nat}
def A1{α:Type}{l:List α}{x:α}(h:l[i]? =some x):l.take (i+1)=l.take i++[x]:=by
 rw[Sf,h];rfl
variable{l:Addr}{as:List Addr}{PV:List ∅}
def IsLL.app{bs:List Addr}{b:List ∅}(x:IsLL H l as PV)(f:l∉as)(e:l∉bs)(len:bs.length=b.length)(c:∀(j:Nat) (a:Addr) (ys:∅),bs[j]? =some a->b[j]? =some ys->H a=↥(ys.map V.int)):
  IsLL (upd H l (.lst (as.map V.ref++bs.map V.ref))) l (as++bs) (PV++b):=by
 have h:=x.len;refine⟨by rw[ai,Re],by rw[Qn,Qn,x.len,len],λj a ys h1 h2=>?_⟩;by_cases g:j<as.length
 . rw[QM g]at h1;rw[QM #[0]]at h2;have d:a≠l:=λz=>f (z ▸ Qi h1);rw[ap d];exact x.at_ j a ys h1 h2
 . rw[QS #[0]]at h1;rw[QS #[0]]at h2;have d:a≠l:=λz=>e (z ▸ Qi h1);rw[ap d];exact c _ a ys h1 (by rw[h];exact h2)
def IsLL.get{a:Addr}(x:IsLL H l as PV)(h:as[i]? =some a):∃ xs,PV[i]? =some xs/\H a=↥(xs.map V.int):=by
 have b:=(P8.mp h).1;have e:PV[i]? =some (PV[i]'(by have:=x.len;omega)):=P1 _;exact⟨_,e,x.at_ i a _ h e⟩
variable{n:Nat}
def HJ(h:n<=1100):n<sizeLine:=Rn h #[1]
variable{p:Addr}
def HK{q:Addr}{xs ys:List V}(b:H p=↥xs)(a:H q=↥ys)(c:xs.length+ys.length<=1100)(h:Q .non (upd H p (.lst (xs++ys)))):vP (.ref p) [.ref q] H Q:=by
 show bnd (unM (H p)) _;rw[b];show bnd (unM (H q)) _;rw[a];exact⟨QT (HJ c),h⟩
def HL(f:α->V)(xs:List α)(k:Nat):cutV (xs.map f) none (some (k:Int))=(xs.take k).map f:=by
 unfold cutV;rw[HT.sIx_nat,HT.sIx_none,P0,List.drop_zero,Nat.sub_zero,Tx];by_cases h:k<=xs.length
 . rw[T4 h]
 . rw[SR #[0],Q8 (by rw[P0];exact Qd _),Q8 (by rw[P0];omega)]
def Fg(m:Int):(sgL m).length<=Builtin.Int.intBits m:=by
 unfold sgL;rw[P0];refine Qa (Qk _ _) ?_;rw[QU];exact Qd _
def prodW(ms:∅):Nat:=ms.foldl (λp m=>p*(sgL m).length) 1
def y0{x:Int}(f:α->Int->α)(a:α)(h:xs[i]? =some x):(xs.take (i+1)).foldl f a=f ((xs.take i).foldl f a) x:=by
 rw[Sf,h,Tu];rfl
def Am(K:Frag):Sp:=#[3,∃ p ms,vs=[.ref p]/\H p=↥(ms.map V.int)/\(∀ m∈ms,Builtin.Int.intBits m<=900)/\∀ a,Same H a->Q (.int ((prodW ms:Nat):Int)) a]
def An(K:Frag):TS:=#[":gldf#1 h#1 gTyc0h#2 lbU1nxa,~pca2eeh#1 j1"]
def Kh(h:Am K vs H Q E):An K (eD9 Q) (start ["masks","product","mask"] vs) H:=by
 obtain⟨p,ms,rfl,d,n,k⟩:=h;exists An;refine⟨⟨_,Qh d⟩,dF (K:=K) (xs:=ms.map V.int) (λi σ e=>∃ c:Option V,σ=[↑p,⇑((prodW (ms.take i):Nat):Int),c]/\Same H e) ⟨none,rfl,P2 H⟩ (λi σ e _ ⟨_,_,s⟩=>Qh (s _ _ d)) ?_ ?_⟩
 . rintro i x σ o j ⟨c,rfl,b⟩;obtain⟨m,f,rfl⟩:=bj j;have a:=n m (Qi f);exists⟨m,rfl,a,λl r g t q=>?_⟩;symm;rw[aO q];symm;have h1:=Fg m;rw[P0];refine⟨.inr ⟨by omega,by omega⟩,⇑m,?_,b.trans g⟩;unfold prodW;rw[y0 _ _ f,Int.natCast_mul]
 . rintro σ o ⟨c,rfl,b⟩;symm;rw[Q8 (by rw[P0];exact Qd _)] at*;exact k _ b
def setL(xs:∅)(z s:Int):∅:=(List.range xs.length).map λ(i:Nat)=>if (i:Int)=z then s else xs.getD i 0
variable{z s:Int}
def CY:(setL xs z s).length=xs.length:=by unfold setL;simp
def Fh(b:0<=s)(c:s<=6)(g:∀ x∈xs,0<=x/\x<=6):∀ x∈setL xs z s,0<=x/\x<=6:=λx h=>by
 unfold setL at h;obtain⟨i,d,rfl⟩:=Qe.mp h;have a:=Qf.mp d;have e:=g _ (QE a);have f:xs.getD i 0=xs[i]:=by rw[List.getD,P1 a];rfl
 rw[f]
 split
 . exact⟨b,c⟩
 . exact e
def lq(K:Frag):Sp:=#[3,∃ F xs z s,vs=[.ref F,.int z,.int s]/\H F=↥(xs.map V.int)/\xs.length<=100/\∀ l a,Same H a->H l=none->a l=↥((setL xs z s).map V.int)->Q (.ref l) a]
def oW(K:Frag):TS:=#[":jz&---12 ~Lca0e?c#2 Mh#1 Mh#2 [H~mmbsc1342"]
def CZ(h:lq K vs H Q E):oW K (eD9 Q) (start ["filling","cell","sign"] vs) H:=by
 obtain⟨F,xs,z,s,rfl,e,n,q⟩:=h;exists oW;refine⟨F,rfl,⟨_,Qh e⟩,?_⟩;refine sk (xs:=xs.map V.int) (λ_=>true) (λi=>.int (if (i:Int)=z then s else xs.getD i 0)) (by rw[P0];omega) #[1] (Qh e) ?_ ?_ ?_
 . intro i x b R g d k1;exact k1 _ (P2 _)
 . intro i x b j g m d k1;obtain⟨y,k,rfl⟩:=bj g;have a:=k1 _ (P2 b);rw[ja k]at a;show tIf _ _ _ [none,⇑(i:Int),⇑y,⇑z,⇑s] b j;unfold tIf;symm;by_cases h0:(i:Int)=z
   . rw[P4 h0];rw[Qt h0]at a;exact iteT a
   . rw[P3 h0];rw[Qp h0]at a;exact iteF a
 . intro l b c d f;rw[bq,P0]at f;refine q l b d c ?_;rw[f];unfold setL;rw[QO];rfl
def extS(a:List ∅)(z:Int)(b:∅):List ∅:=a.flatMap λf=>b.map λs=>setL f z s
theorem xC(z:Int)(b:∅):∀ a:List ∅,(extS a z b).length=a.length*b.length
 | []=>by simp[extS]
 | f::r=>by
  have c:=xC z b r;unfold extS at c ⊢;rw[List.flatMap_cons,Qn,c,P0,QC,Ug,Nat.add_comm]
def Jg(b c:List ∅)(z:Int)(a:∅):extS (b++c) z a=extS b z a++extS c z a:=by
 unfold extS;rw[List.flatMap_append]
def Jh(f:∅)(z:Int)(a:∅):extS [f] z a=a.map λs=>setL f z s:=by
 unfold extS;simp
def mem_extS{f:∅}{d:List ∅}{e:∅}:f∈extS d z e↔∃ a∈d,∃ s∈e,f=setL a z s:=by
 unfold extS;rw[List.mem_flatMap];constructor
 . rintro⟨a,c,h⟩;obtain⟨s,b,rfl⟩:=Qe.mp h;exact⟨a,c,s,b,rfl⟩
 . rintro⟨a,c,s,b,rfl⟩;exact⟨a,c,Qe.mpr ⟨s,b,rfl⟩⟩
def HM{H0 e f:Hp}{m:Addr}{bs:List Addr}{c:List ∅}(x:IsLL e l as PV)(i:l∉as)(k:Same H0 e)(n:∀ b∈as,H0 b=none)(o:Same e f)(d:NewAt e f m bs (c.map λys=>.lst (ys.map V.int))):
  IsLL (upd f l (.lst (as.map V.ref++bs.map V.ref))) l (as++bs) (PV++c)/\l∉as++bs/\(∀ b∈as++bs,H0 b=none):=by
 have g:l∉bs:=λh=>by have:=d.fr l h;rw[x.top]at this;cases this
 refine⟨?_,?_,?_⟩
 . refine(x.same o).app i g (by rw[d.len,P0]) λj a ys h1 h2=>?_;exact d.at_ j a _ h1 (by rw[P5,h2];rfl)
 . intro h;rcases QD.mp h with h | h
   . exact i h
   . exact g h
 . intro b h;rcases QD.mp h with h | h
   . exact n b h
   . exact k.free (d.fr b h)
def jn(K:Frag):Sp:=#[3,∃ F S as a z b,vs=[.ref F,.int z,.ref S]/\IsLL H F as a/\H S=↥(b.map V.int)/\a.length*b.length<=1100/\b.length<=100/\(∀ f∈a,f.length<=16)/\
 ∀(l:Addr) (d:List Addr) (c:Hp),Same H c->H l=none->IsLL c l d (extS a z b)->Q (.ref l) c]
def jo(K:Frag):TS:=#[":glueh#3 gTyc0h#4 ZRcQ{S3az&--14 yc2h#1 H,'Mca3a2a1eej3"]
def wj(h:jn K vs H Q E):jo K (eD9 Q) (start ["fillings","cell","signs","found","filling"] vs) H:=by
 obtain⟨F,S,as,c,z,n,rfl,x,M,hn,hs,Y,q⟩:=h;exists jo;refine⟨lnR rfl,λl o=>?_⟩;obtain⟨H1,z9,G,C⟩:=aU (.lst []) o;rw[z9];refine⟨⟨_,Qh (G _ _ x.top)⟩,?_⟩
 refine dF (K:=K) (xs:=as.map V.ref) (λi σ p=>∃(v:Option V) (d:List Addr),σ=[↑F,⇑z,↑S,↑l,v]/\Same H p/\IsLL p l d (extS (c.take i) z n)/\l∉d/\∀ b∈d,H b=none)
  ⟨none,[],rfl,G,⟨C,rfl,λj a xs h1=>by simp at h1⟩,by simp,λb u=>nomatch u⟩ (λi σ p _ ⟨_,_,_,s,_⟩=>s.seq (Qh x.top)) ?_ ?_
 . rintro i y σ D W ⟨v,d,rfl,k,g,P,O⟩;obtain⟨f,B,rfl⟩:=bL W;obtain⟨xs,A,ef⟩:=x.get B;have ab:=Y xs (Qi A);exists⟨cC g.top,⟨_,Qh (k _ _ M)⟩,?_⟩;refine FO (xs:=n.map V.int) (λ_=>true) (λi=>.lst ((setL xs z (n.getD i 0)).map V.int)) (by rw[P0];omega) (Qh (k _ _ M)) ?_ ?_ ?_
   . intro i x H R hx G k1;exact k1 _ (P2 _)
   . intro i x I T L u r k3;obtain⟨t,U,rfl⟩:=bj L;rw[ja U]at k3;show tCall _ _ _ _ [none,⇑t,⇑z,↑f] I T;exists⟨f,xs,z,t,rfl,(k.trans r) _ _ ef,by omega,λl p X o C=>k3 l p X o C⟩
   . intro m cs I hm r em J;rw[bq,P0,Jf (λs=>HO.lst ((setL xs z s).map V.int))]at J
     have w:NewAt D I m cs ((extS [xs] z n).map λZ=>.lst (Z.map V.int)):=by
      rw[Jh,QO];exact J
     have u:d.length+cs.length<=1100:=by
      have N:=g.len;rw[xC,Rt]at N;have l2:=J.len;rw[P0]at l2;have L:=(P8.mp A).1;have e1:min i c.length=i:=by omega
      rw[e1]at N;have:=SW n.length (show i+1<=c.length by omega);rw[Ug]at this;omega
     refine HK (r _ _ g.top) em (by rw[P0,P0];exact u) ?_;obtain⟨z1,z2,z3⟩:=HM g P k O r w;refine⟨_,d++cs,rfl,(k.trans r).own o,?_,z2,z3⟩;rw[A1 A,Jg];exact z1
 . rintro σ D ⟨v,d,rfl,k,g,P,O⟩;symm;have e:c.take (as.map V.ref).length=c:=Q8 (by rw[P0,x.len];exact Qd _);rw[e]at g;exact q l d D k o g
def wfold(PM:∅)(rest:∅)(a:List ∅):List ∅:=rest.foldl (λa o=>extS a o (sgL (PM.getD o.toNat 0))) a
def wfill(PM rest:∅)(z s:Int):List ∅:=wfold PM rest [setL (List.replicate PM.length 0) z s]
noncomputable def waysB (k:RK) (h w:Int) (cs:∅) (n m:Int) (PM:∅) (z s:Int) (ms:∅):Bool:=
 decide (ms=[])&&(decide (prodW (sgAt PM (othL cs z))<=32)&&(decide (0∈sgAt PM (othL cs z))||!((wfill PM (othL cs z) z s).any λf=>hoB k h w cs n m f)))
theorem A2(PM:∅):∀(rest:∅) (a:List ∅),(wfold PM rest a).length=(sgAt PM rest).foldl (λp m=>p*(sgL m).length) a.length
 | [],_=>rfl
 | o::r,a=>by
  unfold wfold sgAt;rw[Sb,QJ,Sb];have:=A2 PM r (extS a o (sgL (PM.getD o.toNat 0)));unfold wfold sgAt at this;rw[this,xC]
theorem C0:∀(ms:∅) (n:Nat),(∀ m∈ms,1<=(sgL m).length)->n<=ms.foldl (λp m=>p*(sgL m).length) n
 | [],_,_=>Qd _
 | m::r,n,h=>by
  rw[Sb];exact Qa (Nat.le_mul_of_pos_right n (h m Qm)) (C0 r _ λx a=>h x (Qg _ a))
def F4(i:Nat)(h:∀ m∈ms,1<=(sgL m).length):prodW (ms.take i)<=prodW ms:=by
 have e:prodW ms=(ms.drop i).foldl (λp m=>p*(sgL m).length) (prodW (ms.take i)):=by
  unfold prodW;rw[← Tu,List.take_append_drop]
 rw[e];exact C0 _ _ λx a=>h x (List.mem_of_mem_drop a)
theorem sS{n:Nat}{PM:∅}(l:∀ m∈PM,0<=m/\m<64):∀(rest:∅) (d:List ∅),(∀ f∈d,f.length=n/\∀ x∈f,0<=x/\x<=6)->∀ f∈wfold PM rest d,f.length=n/\∀ x∈f,0<=x/\x<=6
 | [],_,h,f,hf=>h f hf
 | o::r,d,h,f,hf=>by
  refine sS l r (extS d o (sgL (PM.getD o.toNat 0))) (λg p=>?_) f hf;obtain⟨a,q,s,b,rfl⟩:=mem_extS.mp p;have h1:=h a q
  have i:1<=s/\s<=6:=by
   by_cases c:o.toNat<PM.length
   . have e:PM.getD o.toNat 0=PM[o.toNat]:=by rw[List.getD,P1 c];rfl
     rw[e]at b;have k:=l _ (QE c);rw[(jD k.1 k.2).2]at b;obtain⟨j,t,rfl⟩:=Qe.mp b;have:=(QB.mp t).1;simp at this;omega
   . have e:PM.getD o.toNat 0=0:=by rw[List.getD,Qr #[0]];rfl
     rw[e,LA]at b;cases b
  exact⟨by rw[CY];exact h1.1,Fh #[0] i.2 h1.2⟩
def lr(K:Frag)(c:Uk):Sp:=#[3,∃ k r p A M b cs PM ms n m z s h w g,vs=[.ref r,.ref A,.int z,.int s,.ref M]/\IsRule H c k r p b cs n m/\IsFl H p h w g/\FlOk h w g/\aV cs PM.length/\PM.length<=16/\(∀ m∈PM,0<=m/\m<64)/\1<=s/\s<=6/\H A=↥(PM.map V.int)/\H M=↥(ms.map V.int)/\∀ a,Same H a->Q (.bl (waysB k h w cs n m PM z s ms)) a]
def iL(K:Frag)(c:Uk):TS:=#[":gTyc7h#9 owDkK{T{Uck0a9ejdFCpjdFP"]
def iM(K:Frag)(c:Uk):TS:=#[":glua,'Mcab{Vuadf#0 enxa1ea2a3eeh#7 gTyc5h#8 l,{Wca7a8a,~pcabi18eeh#7 {Xck"]
def lu(K:Frag)(c:Uk):TS:=#[":gl,~ncka0a2eh#5 gl,~oca1a5eh#6 goBmbEc4uemb>,{Yca6edf#32 jdFCpgow,~Jca6ejdFPp{Zck"]
structure Wys(H:Hp)(c:Uk)(k:RK)(r p A:Addr)(ws:List (List Nat))(cs PM:∅)(n m h w g:Int):Prop where
 R:IsRule H c k r p ws cs n m
 fl:IsFl H p h w g
 F:FlOk h w g
 ci:aV cs PM.length
 ml:PM.length<=16
 mo:∀ m∈PM,0<=m/\m<64
 hA:H A=↥(PM.map V.int)
variable{A:Addr}{PM:∅}{g:Int}
def Wys.same{a:Hp}{k:RK}{r:Addr}{b:List (List Nat)}{n:Int}(x:Wys H c k r p A b cs PM n m h w g)(s:Same H a):Wys a c k r p A b cs PM n m h w g:=⟨x.R.same s,s _ _ x.fl,x.F,x.ci,x.ml,x.mo,s _ _ x.hA⟩
def F5 {k:RK} {r F:Addr} {I:List (List Nat)} {n:Int} {O G E J L v8:Option V} {bs:List Addr} {a:List ∅} (X:Wys H c k r p A I cs PM n m h w g) (x:IsLL H F bs a) (U:∀ f∈a,f.length=PM.length/\∀ x∈f,0<=x/\x<=6)
  (q:∀ o,Same H o->Q (.bl (!(a.any λf=>hoB k h w cs n m f))) o):
  iL K c (eD9 Q) [↑r,↑A,O,G,E,J,L,↑F,v8,none] H:=by
 obtain⟨dx,W,C,h1,h2,h3⟩:=X.R.ex;have B:=x.len;unfold iL;exists⟨⟨_,Qh x.top⟩,?_⟩;refine dF (K:=K) (xs:=bs.map V.ref) (λi σ o=>∃ z:Option V,σ=[↑r,↑A,O,G,E,J,L,↑F,v8,z]/\Same H o/\((a.take i).any λf=>hoB k h w cs n m f)=false) ⟨none,rfl,P2 _,rfl⟩ (λi σ o _ ⟨_,_,s,_⟩=>s.seq (Qh x.top)) ?_ ?_
 . rintro i y σ Z u ⟨z,rfl,j,d⟩;obtain⟨b,Y,rfl⟩:=bL u;obtain⟨f,M,T⟩:=x.get Y;have l:=Qi M;obtain⟨D,v⟩:=U f l;have t:=X.same j;symm;rw[az];exists methE (k:=k) rfl X.R.ok (j _ _ h1) (by rfl) ?_;exists⟨r,p,b,I,cs,f,n,m,h,w,g,rfl,t.R,t.fl,t.F,j _ _ T,by rw[D];exact t.ci,λy u=>by have:=v y u;omega,λH2 N=>?_⟩;refine⟨_,rfl,?_⟩
   cases S:hoB k h w cs n m f with
   | true=>
    refine iteT ?_;have e:(a.any λf=>hoB k h w cs n m f)=true:=RZ.mpr ⟨f,l,S⟩;have P:=q _ (j.trans N);rw[e]at P;exact P
   | false=>
    refine iteF ⟨_,rfl,j.trans N,?_⟩;rw[A1 M,List.any_append,d,Rq]
    simpa using S
 . rintro σ Z ⟨z,rfl,j,d⟩;rw[Q8 (by rw[P0,B];exact Qd _)]at d;symm;rw[d]at q;exact q _ j
def F6 {k:RK} {r R:Addr} {ws:List (List Nat)} {n:Int} {v4 v6:Option V} (X:Wys H c k r p A ws cs PM n m h w g) (hR:H R=↥((othL cs z).map V.int)) (s0:1<=s) (s6:s<=6) (hw:prodW (sgAt PM (othL cs z))<=32) (h0:0∉sgAt PM (othL cs z))
  (q:∀ u,Same H u->Q (.bl (!((wfill PM (othL cs z) z s).any λf=>hoB k h w cs n m f))) u):
  iM K c (eD9 Q) [↑r,↑A,⇑z,⇑s,v4,↑R,v6,none,none,none] H:=by
 have ag:=X.ml;unfold iM;exists⟨lnR rfl,λZ hZ=>?_⟩;obtain⟨C,z9,s1,eZ⟩:=aU (.lst [V.int 0]) hZ;rw[z9];rw[aO (s1 _ _ X.hA),P0];refine Lc eZ #[0] #[0] (by show(1:Nat)<=1;decide) λN hN=>?_;have s2:Same C (upd C N (.lst (List.replicate ((PM.length:Nat):Int).toNat [V.int 0]).flatten)):=(P2 C).laid hN
 have eN:(upd C N (.lst (List.replicate ((PM.length:Nat):Int).toNat [V.int 0]).flatten)) N=↥((List.replicate PM.length (0:Int)).map V.int):=by
  rw[ai,Ti];simp
 generalize upd C N (.lst (List.replicate ((PM.length:Nat):Int).toNat [V.int 0]).flatten)=H2 at*;have ae:=s1.trans s2;refine⟨N,_,z,s,rfl,eN,by simp;omega,λb J s3 B eb=>?_⟩;have P:=ae.trans s3;exists⟨lnR rfl,λF hF=>?_⟩;have s4:Same J (upd J F (.lst [V.ref b])):=(P2 J).laid hF
 have xF:IsLL (upd J F (.lst [V.ref b])) F [b] [setL (List.replicate PM.length 0) z s]:=by
  refine⟨ai,rfl,λj a xs e1 e2=>?_⟩;have hj:j=0:=by have:=(P8.mp e1).1;simp at this;omega
  subst hj;cases e1;cases e2;exact s4 _ _ eb
 generalize upd J F (.lst [V.ref b])=H4 at*;have D:=P.trans s4
 have t:∀ f∈([setL (List.replicate PM.length 0) z s]:List ∅),f.length=PM.length/\∀ x∈f,0<=x/\x<=6:=λf Y=>by
  rw[Qz.mp Y];exact⟨by rw[CY];simp,Fh #[0] s6 λx hx=>by rw[(Tj.mp hx).2];omega⟩
 have T:∀ U∈sgAt PM (othL cs z),1<=(sgL U).length:=λU hm=>by
  have G:U≠0:=λe=>h0 (e ▸ hm);unfold sgAt at hm;obtain⟨o,O,rfl⟩:=Qe.mp hm;have v:o∈cs:=(QB.mp O).1;have hi:=X.ci.2 o v;have d:o.toNat<PM.length:=by omega
  have e:PM.getD o.toNat 0=PM[o.toNat]:=by rw[List.getD,P1 d];rfl
  rw[e]at G ⊢;have B:=X.mo _ (QE d);exact(JB B.1 B.2 G).1.1
 refine⟨⟨_,Qh (D _ _ hR)⟩,?_⟩;refine dF (K:=K) (xs:=(othL cs z).map V.int) (λi σ u=>∃(F:Addr) (M:List Addr) (W:Option V),σ=[↑r,↑A,⇑z,⇑s,v4,↑R,v6,↑F,W,none]/\Same H u/\IsLL u F M (wfold PM ((othL cs z).take i) [setL (List.replicate PM.length 0) z s])) ⟨F,[b],none,rfl,D,xF⟩ (λi σ u _ ⟨_,_,_,_,s,_⟩=>s.seq (Qh hR)) ?_ ?_
 . rintro i y σ H5 hy ⟨F,M,W,rfl,E,L⟩;obtain⟨o,O,rfl⟩:=bj hy;have ab:=Qi O;have v:o∈cs:=(QB.mp ab).1;have hi:=X.ci.2 o v;have d:o.toNat<PM.length:=by omega
   have e:PM.getD o.toNat 0=PM[o.toNat]:=by rw[List.getD,P1 d];rfl
   have B:=X.mo _ (QE d);have sb:=jD B.1 B.2;exists ixI (E _ _ X.hA) #[0] #[0] ?_;symm;rw[e];refine⟨_,rfl,by omega,λS H6 I hS eS=>?_⟩;symm;have af:(sgL PM[o.toNat]).length<=6:=Qa (Fg _) sb.1;refine⟨F,S,M,_,o,_,rfl,L.same I,eS,?_,by omega,λf Y=>by have:=(sS X.mo _ _ t f Y).1;omega,λl ac H7 s7 hl x7=>?_⟩
   . rw[A2];have h1:=F4 i T
     have e2:(sgAt PM ((othL cs z).take i)).foldl (λp m=>p*(sgL m).length) ([setL (List.replicate PM.length 0) z s]:List ∅).length=prodW ((sgAt PM (othL cs z)).take i):=by
      unfold prodW sgAt;rw[Tx];rfl
     rw[e2];have h3:prodW ((sgAt PM (othL cs z)).take i)*(sgL PM[o.toNat]).length<=32*6:=Nat.mul_le_mul #[0] af;omega
   . refine⟨l,ac,_,rfl,(E.trans I).trans s7,?_⟩
     have e3:wfold PM ((othL cs z).take (i+1)) [setL (List.replicate PM.length 0) z s]=extS (wfold PM ((othL cs z).take i) [setL (List.replicate PM.length 0) z s]) o (sgL PM[o.toNat]):=by
      unfold wfold;rw[y0 _ _ O,e]
     rw[e3];exact x7
 . rintro σ H5 ⟨F,M,W,rfl,E,L⟩;rw[Q8 (by rw[P0];exact Qd _)]at L;exact F5 (X.same E) L (sS X.mo _ _ t) λu s'=>q u (E.trans s')
def y2(h:lr K c vs H Q E):lu K c (eD9 Q) (start ["rule","masks","cell","sign","more","rest","some","fillings","other","filling"] vs) H:=by
 obtain⟨k,r,p,A,M,B,cs,PM,ms,n,m,z,s,h,w,g,rfl,D,Y,F,d,ml,mk,U,W,L,O,q⟩:=h;have X:Wys H c k r p A B cs PM n m h w g:=⟨D,Y,F,d,ml,mk,L⟩;have t:cs.length<=63:=by have:=d.1;omega
 exists lu;refine⟨k,r,p,B,cs,n,m,z,rfl,D,t,λR T J Z eR=>?_⟩;have i:T R=↥((othL cs z).map V.int):=eR;exists⟨A,R,PM,othL cs z,rfl,J _ _ L,i,⟨Qa (Qk _ _) d.1,λx j=>d.2 x (QB.mp j).1⟩,λS G I hS N=>?_⟩;have v:=J.trans I;dsimp only;rw[az];exists⟨lnR rfl,λe he=>?_⟩;obtain⟨H3,z9,s3,ee⟩:∃ z,upd G e (.lst [])=z/\Same G z/\z e=↥(([]:∅).map V.int):=aU _ he;rw[z9];have b:=v.trans s3;refine yt (b _ _ O) ee ?_;refine⟨_,rfl,?_⟩;unfold waysB at q;by_cases u:ms=[]
 . rw[P4 u]at q ⊢;rw[Qc]at q;refine iteF ?_;exists⟨S,_,rfl,s3 _ _ N,λx j=>?_,λH4 l=>?_⟩
   . unfold sgAt at j;obtain⟨o,ho,rfl⟩:=Qe.mp j;have hi:=d.2 o (QB.mp ho).1;have f:o.toNat<PM.length:=by omega
     have e:PM.getD o.toNat 0=PM[o.toNat]:=by rw[List.getD,P1 f];rfl
     rw[e];have C:=mk _ (QE f);have:=(jD C.1 C.2).1;omega
   . have a:=b.trans l;symm;by_cases y:prodW (sgAt PM (othL cs z))<=32
     . rw[P4 y,Qc]at q;rw[P3 #[0]];refine iteF ?_;rw[az];exists⟨S,_,rfl,(s3.trans l) _ _ N,?_⟩;refine⟨_,rfl,?_⟩;by_cases h0:0∈sgAt PM (othL cs z)
       . rw[P4 h0]at q ⊢;rw[Sy]at q;exact iteT (q _ a)
       . rw[P3 h0]at q ⊢;rw[Rq]at q;refine iteF ?_;exact F6 (X.same a) (((I.trans s3).trans l) _ _ i) U W y h0 λH' P=>q H' (a.trans P)
     . rw[P3 y,P9]at q;rw[P4 #[0]];exact iteT (q _ a)
 . rw[P3 u,P9]at q;rw[P3 u];exact iteT (q _ b)
def C2(g:Int)(t:TK)(x:RR)(PM:∅)(z s:Int)(ms:∅):Bool:=match t with
 | .only=>onlyB x.cs PM z s ms
 | .place=>CP g x.cs PM z s ms
 | _=>pairB x.cs PM z s ms
def C4(g:Int)(PP:List RR)(cl PM:∅)(t:TK)(r z s:Int)(ms:∅):Bool:=match t with
 | .clue=>clueB cl z s ms
 | _=>match PP[r.toNat]? with
  | none=>false
  | some x=>C2 g t x PM z s ms
noncomputable def rcB (h w:Int) (cs:∅) (st x:Int):Bool:=@decide (RC h w cs st x) (Classical.propDecidable _)
def HN{rs:∅}{st x:Int}(a:x∈rs↔RC h w cs st x):decide (x∈rs)=rcB h w cs st x:=by
 unfold rcB;rw[Qx,P6];exact a.trans (@decide_eq_true_iff _ (Classical.propDecidable _)).symm
def anoB(h w:Int)(PM:∅)(z m o:Int):Bool:=(decide (0<=o)&&decide (o<h*w))&&(!decide (o=z)&&decide (woI (PM.getD o.toNat 0) m=0))
def fD(K:Frag):Sp:=#[3,∃ f A h w g z o m PM,vs=[.ref f,.ref A,.int z,.int o,.int m]/\IsFl H f h w g/\FlOk h w g/\H A=↥(PM.map V.int)/\PM.length=(h*w).toNat/\m<=1000/\Q (.bl (anoB h w PM z m o)) H]
def fE(K:Frag):TS:=#[":jG,'hca0a3eGbEc32,~Ucabi13a4e"]
theorem pk(h:fD K vs H Q E):fE K (eD9 Q) (start ["floor","masks","cell","other","mark"] vs) H:=by
 obtain⟨f,A,h,w,g,z,o,m,PM,rfl,c,F,e,d,i,q⟩:=h;exists fE;refine⟨f,h,w,g,o,rfl,c,F,?_⟩;unfold anoB at q
 cases b:(decide (0<=o)&&decide (o<h*w)) with
 | false=>
  rw[b,P9]at q;exact⟨false,rfl,iteF q⟩
 | true=>
  rw[b,Qc]at q;rw[Qy,P6,P6]at b;refine⟨true,rfl,iteT ?_⟩;symm
  cases a:decide (o=z) with
  | true=>
   rw[a,RH,P9]at q;symm;exact q
  | false=>
   rw[a,Sg,Qc]at q;exists ixI e b.1 #[0] ?_;exists⟨_,m,rfl,by omega,q⟩
def thrL(cs PM:∅)(m z:Int):∅:=(cs.filter λx=>!decide (x=z)).filter λx=>stB (PM.getD x.toNat 0) m
noncomputable def reaB (h w:Int) (cs:∅) (m:Int) (PM:∅) (z s:Int) (ms:∅):Bool:=
 (ms.all λo=>anoB h w PM z m o)&&(if s=m then decide (ms.length=1)&&!rcB h w (thrL cs PM m z++[z]) z (ms.getD 0 0)
  else decide (ms.length=2)&&(!decide (ms.getD 0 0=ms.getD 1 0)&&!rcB h w (thrL cs PM m z) (ms.getD 0 0) (ms.getD 1 0)))
def j7(K:Frag)(c:Uk):Sp:=#[3,∃ k f r p A M b cs PM ms n m z s h w g,vs=[.ref f,.ref r,.ref A,.int z,.int s,.ref M]/\IsFl H f h w g/\FlOk h w g/\IsRule H c k r p b cs n m/\aV cs PM.length/\cs.length<=60/\PM.length=(h*w).toNat/\H A=↥(PM.map V.int)/\H M=↥(ms.map V.int)/\ms.length<=100/\m<=1000/\∀ a,Same H a->Q (.bl (reaB h w cs m PM z s ms)) a]
def ic(K:Frag)(c:Uk):TS:=#[":gombsc46jGbscnxa5edf#1 bNcPbi5df#0 ,'lca0abv7ua3ea3epgoBmbEcnxa5edf#2 mbscbi5df#0 bi5df#1 jdFCpjbNcPbi5df#1 ,'lca0a7abi5df#0 e"]
def ie(K:Frag)(c:Uk):TS:=#[":g~w#7 &--62 yc,~ncka1a3eh#1 w,~tcabi31a2e1{*ck"]
def j8(K:Frag)(c:Uk):TS:=#[":glDkK~F~Gck1eh#6 goJwn~aaz&--3062 yc5h#1 H,{+ca3a5a2a1a4eejdFCp{-ck"]
variable{M:Addr}{v1:V}
def tV {f N:Addr} {T:∅} (t:IsFl H f h w g) (F:FlOk h w g) (a:H M=↥(ms.map V.int)) (u:H N=↥(T.map V.int)) (L:T.length<=60)
  (q:∀ v,Same H v->Q (.bl (if s=m then decide (ms.length=1)&&!rcB h w (T++[z]) z (ms.getD 0 0) else decide (ms.length=2)&&(!decide (ms.getD 0 0=ms.getD 1 0)&&!rcB h w T (ms.getD 0 0) (ms.getD 1 0)))) v):
  ic K c (eD9 Q) [↑f,some v1,↑A,⇑z,⇑s,↑M,⇑m,↑N] H:=by
 have P:=F.w0;have O:=F.w1;unfold ic;rw[ax,az];symm;by_cases j:s=m
 . rw[Qt j]at q;rw[P4 j];symm;rw[aO a,P0];symm
   have e1:decide ((ms.length:Int)=1)=decide (ms.length=1):=by
    rw[Qx,P6,P6];omega
   rw[e1]
   cases b:decide (ms.length=1) with
   | false=>
    rw[b,P9]at q;exists q _ (P2 _)
   | true=>
    rw[b,Qc]at q;have C:=Qw b;exists ixI a #[1] #[0] ?_;rw[show(0:Int).toNat=0 from rfl];exists⟨lnR rfl,λl o=>?_⟩;obtain⟨e,E,x,D⟩:=aU (.lst [V.int z]) o;rw[E];refine jC (x _ _ u) D (by simp;omega) λY J=>?_;have G:Same e (upd e Y (.lst (T.map V.int++[V.int z]))):=(P2 e).laid J;have y:(upd e Y (.lst (T.map V.int++[V.int z]))) Y=↥((T++[z]).map V.int):=by rw[ai];simp
    generalize upd e Y (.lst (T.map V.int++[V.int z]))=H2 at*;have i:=x.trans G;exists⟨f,Y,h,w,g,z,_,rfl,i _ _ t,by omega,by omega,y,by simp;omega,λp I rs r B n _ k=>?_⟩;dsimp only;rw[jJ n,HN (k _)];exact q _ (i.trans r)
 . rw[Qp j]at q;rw[P3 j];symm;rw[az];symm;rw[aO a,P0];symm
   have e1:decide ((ms.length:Int)=2)=decide (ms.length=2):=by
    rw[Qx,P6,P6];omega
   rw[e1]
   cases b:decide (ms.length=2) with
   | false=>
    rw[b,P9]at q;exists q _ (P2 _)
   | true=>
    rw[b,Qc]at q;have C:=Qw b;exists ixI a #[1] #[0] ?_;rw[show(0:Int).toNat=0 from rfl];exists ixI a #[1] #[0] ?_;rw[show(1:Int).toNat=1 from rfl];symm
    cases d:decide (ms.getD 0 0=ms.getD 1 0) with
    | true=>
     rw[d,RH,P9]at q;exists q _ (P2 _)
    | false=>
     rw[d,Sg,Qc]at q;exists ixI a #[1] #[0] ?_;rw[show(1:Int).toNat=1 from rfl];exists ixI a #[1] #[0] ?_;rw[show(0:Int).toNat=0 from rfl];exists⟨f,N,h,w,g,_,_,rfl,t,by omega,by omega,u,by omega,λp I rs r B n _ k=>?_⟩;dsimp only;rw[jJ n,HN (k _)];exact q _ r
def tW {k:RK} {f r:Addr} {j:List (List Nat)} {n:Int} (D:IsFl H f h w g) (F:FlOk h w g) (x:IsRule H c k r p j cs n m) (t:aV cs PM.length) (E:PM.length=(h*w).toNat) (J:H A=↥(PM.map V.int)) (B:H M=↥(ms.map V.int))
  (q:∀ d,Same H d->Q (.bl (if s=m then decide (ms.length=1)&&!rcB h w (thrL cs PM m z++[z]) z (ms.getD 0 0) else decide (ms.length=2)&&(!decide (ms.getD 0 0=ms.getD 1 0)&&!rcB h w (thrL cs PM m z) (ms.getD 0 0) (ms.getD 1 0)))) d) (I:cs.length<=60):
  ie K c (eD9 Q) [↑f,↑r,↑A,⇑z,⇑s,↑M,⇑m,none] H:=by
 unfold ie;exists⟨k,r,p,j,cs,n,m,z,rfl,x,t.1,λO U v P u=>?_⟩;have L:=Qk (λx=>!decide (x=z)) cs;refine⟨O,rfl,⟨_,Qh u⟩,?_⟩;refine bc (xs:=cs.filter λx=>!decide (x=z)) (λx=>stB (PM.getD x.toNat 0) m) (λx=>x) #[0] (Qh u) ?_ ?_ ?_
 . intro y e R l i k2;have b:=t.2 y (QB.mp l).1;show tB _ [none,⇑y,⇑m,↑A] e R;exists ixI ((v.trans i) _ _ J) b.1 b.2 ?_;exists⟨_,m,rfl,_,rfl,k2 _ (P2 _)⟩
 . intro y e C l S i k2;show tVar 1 [none,⇑y,⇑m,↑A] e C;exists k2 _ (P2 _)
 . intro N e W i o;rw[Rz]at o;have a:=v.trans i;exists tV (a _ _ D) F (a _ _ B) (T:=thrL cs PM m z) o ?_ λd G=>q d (a.trans G);unfold thrL;have:=Qk (λx=>stB (PM.getD x.toNat 0) m) (cs.filter λx=>!decide (x=z));omega
def xD(h:j7 K c vs H Q E):j8 K c (eD9 Q) (start ["floor","rule","masks","cell","sign","more","mark","through"] vs) H:=by
 obtain⟨k,f,r,p,A,M,N,cs,PM,ms,n,m,z,s,h,w,g,rfl,B,F,x,Y,t,b,G,d,U,T,q⟩:=h;obtain⟨dx,W,C,h1,h2,h3⟩:=x.ex;ac_nf;unfold j8;rw[ax,bP];refine methE (k:=k) rfl x.ok h1 (by rfl) ?_;exists⟨r,p,N,cs,n,m,rfl,x,?_⟩;symm;rw[az];exists⟨⟨_,Qh d⟩,?_⟩;refine bM (xs:=ms.map V.int) (λ_=>true) (λi=>.bl (anoB h w PM z m (ms.getD i 0))) (by rw[P0];omega) (Qh d) ?_ ?_ ?_
 . intro i y j R u a k1;exact k1 _ (P2 _)
 . intro i y j S u e a k1;obtain⟨v,J,rfl⟩:=bj u;have P:ms.getD i 0=v:=by rw[List.getD,J];rfl
   rw[P]at k1;show tCall _ _ _ _ [none,⇑v,⇑z,↑f,⇑m,↑A] j S;exists⟨f,A,h,w,g,z,v,m,PM,rfl,a _ _ B,F,a _ _ G,b,T,k1 _ (P2 _)⟩
 . intro l j hl a D
   have L:((List.range (ms.map V.int).length).filter λ_=>true).map (λi=>V.bl (anoB h w PM z m (ms.getD i 0)))=(ms.map λo=>anoB h w PM z m o).map V.bl:=by
    rw[bq,P0,QO];refine List.ext_getElem (by simp) λi h1 h2=>?_;have I:i<ms.length:=by simpa using h2
    simp[List.getD,P1 I]
   rw[L]at D;refine nO D ?_;have O:(ms.map λo=>anoB h w PM z m o).all id=ms.all λo=>anoB h w PM z m o:=by rw[R8];rfl
   rw[O];unfold reaB at q
   cases e:(ms.all λo=>anoB h w PM z m o) with
   | false=>
    rw[e,P9]at q;refine⟨false,rfl,?_⟩;exists q _ a
   | true=>
    rw[e,Qc]at q;refine⟨true,rfl,?_⟩;exists tW (a _ _ B) F (x.same a) Y b (a _ _ G) (a _ _ d) (λX Z=>q X (a.trans Z)) t
def HP{k:RK}(h:goesB .reach k=true):sgnK k=true:=by cases k <;> first | rfl | cases h
theorem RR.len26{r:RR}(O:r.Ok h w g)(F:FlOk h w g):r.cs.length<=60:=by
 have b:=F.m
 cases a:allK r.k with
 | false=>
  obtain⟨i,d,c,f,e⟩:=O.cl.told a;rw[e,P0];omega
 | true=>
  obtain⟨_,e⟩:=O.cl.all a;rw[e,l0];omega
def C5(p:Int->Int->Bool):Bool:=(List.range 7).all λ(h:Nat)=>(List.range 7).all λ(w:Nat)=>!(decide (1<=h)&&decide (1<=w)&&decide (h*w<=16))||p h w
def A3{p:Int->Int->Bool}(a:C5 p=true){h w g:Int}(F:FlOk h w g):p h w=true:=by
 obtain⟨h0,h1,w0,w1,m16,g0,g1⟩:=F;obtain⟨n,rfl⟩:=Rj (show 0<=h by omega);obtain⟨m,rfl⟩:=Rj (show 0<=w by omega);have a1:=Qj.mp a n (Qf.mpr #[0]);have a2:=Qj.mp a1 m (Qf.mpr #[0]);have e1:1<=n:=by omega
 have e2:1<=m:=by omega
 have e3:n*m<=16:=by have:((n*m:Nat):Int)<=16:=by rw[Int.natCast_mul];exact m16
                     omega
 simpa [e1,e2,e3] using a2
def nearS(h w d r:Int):∅:=if (decide (0<=d)&&decide (d<h))&&(decide (0<=r)&&decide (r<w)) then [d*w+r] else []
def nearP(w c:Int):List (Int × Int):=[(c/w-1,c%w),(c/w,c%w-1),(c/w,c%w+1),(c/w+1,c%w)]
def nearL(h w c:Int):∅:=(nearP w c).flatMap λp=>nearS h w p.1 p.2
def F7:C5 (λh w=>(List.range (h*w).toNat).all λ(c:Nat)=>decide (nearL h w c=besL h w c)&&(besL h w c).all λx=>decide (0<=x)&&decide (x<h*w))=true:=by decide+kernel
def y3{c:Int}(F:FlOk h w g)(b:0<=c)(d:c<h*w):nearL h w c=besL h w c/\∀ x∈besL h w c,0<=x/\x<h*w:=by
 have t:=Qj.mp (A3 F7 F) c.toNat (Qf.mpr #[0]);have e1:((c.toNat:Nat):Int)=c:=by omega
 rw[e1,Qy,P6,Qj]at t;refine⟨t.1,λx a=>?_⟩;have:=t.2 x a
 simpa using this
def C6{c:Int}(F:FlOk h w g)(a:0<=c)(b:c<h*w)(e:n=(h*w).toNat):aV (besL h w c) n:=by
 refine⟨Qa (xm ..) #[1],λx d=>?_⟩;have:=(y3 F a b).2 x d;omega
def arL(h w o z:Int):∅:=(besL h w o).filter λx=>!decide (x=z)
def uJ(K:Frag):Sp:=#[3,∃ a h w g o z,vs=[.ref a,.int o,.int z]/\IsFl H a h w g/\FlOk h w g/\∀ l b,Same H b->H l=none->b l=↥((arL h w o z).map V.int)->Q (.ref l) b]
def uK(K:Frag):TS:=#[":jz&--2 yc,~Kca0a1eh#1 mbEc121"]
def HQ(h:uJ K vs H Q E):uK K (eD9 Q) (start ["floor","middle","cell"] vs) H:=by
 obtain⟨a,h,w,g,o,z,rfl,n,F,q⟩:=h;have p:=F.w0;have t:=F.w1;ac_nf;unfold uK;rw[cH,bE];exists⟨a,h,w,g,o,rfl,n,by omega,by omega,λl s e r f=>?_⟩;have m:=xm h w o;refine⟨l,rfl,⟨_,Qh f⟩,?_⟩;refine bc (xs:=besL h w o) (λx=>!decide (x=z)) (λx=>x) #[0] (Qh f) ?_ ?_ ?_
 . intro y b R i c k2;show tTest _ [none,⇑y,⇑z] b R;exists k2 _ (P2 _)
 . intro y b j i m c k2;show tVar 1 [none,⇑y,⇑z] b j;exists k2 _ (P2 _)
 . intro T b k c d;rw[Rz]at d;exact q T b (e.trans c) (e.free k) d
def mayN(PM:∅)(m:Int)(cs:∅):Nat:=((sgAt PM cs).filter λk=>stB k m).length
def onlN(PM:∅)(m:Int)(cs:∅):Nat:=((sgAt PM cs).filter λk=>decide (woI k m=0)).length
def turnB(h w m:Int)(PM:∅)(z s:Int)(ms:∅):Bool:=
 if ms=[] then decide (s=m)&&(decide ((mayN PM m (besL h w z):Int)<2)||decide ((2:Int) < (onlN PM m (besL h w z):Int)))
 else decide (ms.length=1)&&(decide (ms.getD 0 0∈besL h w z)&&(decide (woI (PM.getD (ms.getD 0 0).toNat 0) m=0)&&
  (if s=m then decide ((2:Int)<=(onlN PM m (arL h w (ms.getD 0 0) z):Int)) else decide ((mayN PM m (arL h w (ms.getD 0 0) z):Int)<2))))
def lw(K:Frag)(c:Uk):Sp:=#[3,∃ k f r p A M b cs PM ms n m z s h w g,vs=[.ref f,.ref r,.ref A,.int z,.int s,.ref M]/\IsFl H f h w g/\FlOk h w g/\IsRule H c k r p b cs n m/\PM.length=(h*w).toNat/\H A=↥(PM.map V.int)/\H M=↥(ms.map V.int)/\m<=1000/\0<=z/\z<h*w/\∀ a,Same H a->Q (.bl (turnB h w m PM z s ms)) a]
def iO(K:Frag)(c:Uk):TS:=#[":gl,~oca2a,{/ca0abi5df#0 a3eeh#7 gombsc46jb),~Xca7a6edf#2 pjb<,~Wca7a6edf#2 "]
def iP(K:Frag)(c:Uk):TS:=#[":goBmbEcnxa5edf#1 BmbNcPbi5df#0 ,~Kca0a3eJw,~Ucabi2bi5df#0 a6ejdFCp{:ck"]
def lx(K:Frag)(c:Uk):TS:=#[":glDkK~F~Gck1eh#6 gombsc5uegl,~oca2a,~Kca0a3eeh#7 jGbsc46~Ab<,~Wca7a6edf#2 b>,~Xca7a6edf#2 p{;ck"]
def uL {f:Addr} (v:IsFl H f h w g) (F:FlOk h w g) (j:PM.length=(h*w).toNat) (I:H A=↥(PM.map V.int)) (u:H M=↥(ms.map V.int)) (O:ms.length=1) (L:m<=1000) (y:0<=z) (G:z<h*w) (E:ms.getD 0 0∈besL h w z)
  (q:∀ p,Same H p->Q (.bl (if s=m then decide ((2:Int)<=(onlN PM m (arL h w (ms.getD 0 0) z):Int)) else decide ((mayN PM m (arL h w (ms.getD 0 0) z):Int)<2))) p):
  iO K c (eD9 Q) [↑f,some v1,↑A,⇑z,⇑s,↑M,⇑m,none] H:=by
 have a:=(y3 F y G).2 _ E;have d:=C6 (n:=PM.length) F a.1 a.2 j;have b:aV (arL h w (ms.getD 0 0) z) PM.length:=⟨Qa (Qk _ _) d.1,λx t=>d.2 x (QB.mp t).1⟩;unfold iO;exists ixI u #[1] #[0] ?_;rw[show(0:Int).toNat=0 from rfl];exists⟨f,h,w,g,_,z,rfl,v,F,λR J k N D=>?_⟩;exists⟨A,R,PM,_,rfl,k _ _ I,D,b,λB S r P l=>?_⟩;have o:(sgAt PM (arL h w (ms.getD 0 0) z)).length<=63:=by unfold sgAt;rw[P0];exact b.1
 symm;rw[az];symm;by_cases e:s=m
 . rw[P4 e];rw[Qt e]at q;exists⟨B,_,_,rfl,l,o,by omega,λC i=>?_⟩;exists q _ ((k.trans r).trans i)
 . rw[P3 e];rw[Qp e]at q;exists⟨B,_,_,rfl,l,o,λC i=>?_⟩;exists q _ ((k.trans r).trans i)
theorem uM {f:Addr} (l:IsFl H f h w g) (F:FlOk h w g) (k:PM.length=(h*w).toNat) (r:H A=↥(PM.map V.int)) (e:H M=↥(ms.map V.int)) (u:m<=1000) (n:0<=z) (p:z<h*w)
  (q:∀ i,Same H i->Q (.bl (decide (ms.length=1)&&(decide (ms.getD 0 0∈besL h w z)&&(decide (woI (PM.getD (ms.getD 0 0).toNat 0) m=0)&&(if s=m then decide ((2:Int)<=(onlN PM m (arL h w (ms.getD 0 0) z):Int)) else decide ((mayN PM m (arL h w (ms.getD 0 0) z):Int)<2)))))) i):
  iP K c (eD9 Q) [↑f,some v1,↑A,⇑z,⇑s,↑M,⇑m,none] H:=by
 have E:=F.w0;have B:=F.w1;unfold iP;rw[ax,az];symm;rw[aO e,P0];symm
 have e1:decide ((ms.length:Int)=1)=decide (ms.length=1):=by
  rw[Qx,P6,P6];omega
 rw[e1]
 cases j:decide (ms.length=1) with
 | false=>
  rw[j,P9]at q;exists q _ (P2 _)
 | true=>
  rw[j,Qc]at q;have v:=Qw j;exists ixI e #[1] #[0] ?_;rw[show(0:Int).toNat=0 from rfl];exists⟨f,h,w,g,z,rfl,l,by omega,by omega,λR C a D x=>?_⟩;dsimp only;rw[jJ x]
  cases b:decide (ms.getD 0 0∈besL h w z) with
  | false=>
   rw[b,P9]at q;refine⟨true,rfl,iteT ?_⟩;exists q _ a
  | true=>
   rw[b,Qc]at q;have o:=Qw b;have t:=(y3 F n p).2 _ o;refine⟨false,rfl,iteF ?_⟩;exists ixI (a _ _ e) #[1] #[0] ?_;rw[show(0:Int).toNat=0 from rfl];exists ixI (a _ _ r) #[0] #[0] ?_;exists⟨_,m,rfl,by omega,?_⟩
   cases d:decide (woI (PM.getD (ms.getD 0 0).toNat 0) m=0) with
   | false=>
    rw[d,P9]at q;refine⟨false,rfl,iteT ?_⟩;exists q _ a
   | true=>
    rw[d,Qc]at q;refine⟨true,rfl,iteF ?_⟩;exact uL (a _ _ l) F k (a _ _ r) (a _ _ e) v u n p o λi y=>q i (a.trans y)
def y4(h:lw K c vs H Q E):lx K c (eD9 Q) (start ["floor","rule","masks","cell","sign","more","mark","some"] vs) H:=by
 obtain⟨k,f,r,p,A,M,J,cs,PM,ms,n,m,z,s,h,w,g,rfl,v,F,x,e,I,u,O,D,G,q⟩:=h;obtain⟨dx,W,C,h1,h2,h3⟩:=x.ex;have w0:=F.w0;have X:=F.w1;ac_nf;unfold lx;rw[ax,bP];refine methE (k:=k) rfl x.ok h1 (by rfl) ?_;exists⟨r,p,J,cs,n,m,rfl,x,?_⟩;symm;rw[az];exists⟨aQ #[1],λZ L=>?_⟩;obtain⟨H1,z9,s1,eZ⟩:∃ z,upd H Z (.lst [])=z/\Same H z/\z Z=↥(([]:∅).map V.int):=aU _ L;rw[z9];refine pr (s1 _ _ u) eZ ?_;unfold turnB at q;by_cases a:ms=[]
 . rw[Qt a]at q;rw[P4 a];refine⟨true,rfl,?_⟩;exists⟨f,h,w,g,z,rfl,s1 _ _ v,by omega,by omega,λR H2 j Y P=>?_⟩;have i:=C6 (n:=PM.length) F D G e;exists⟨A,R,PM,_,rfl,(s1.trans j) _ _ I,P,i,λB H3 T hB o=>?_⟩;have t:(sgAt PM (besL h w z)).length<=63:=by unfold sgAt;rw[P0];exact i.1
   have b:=(s1.trans j).trans T;symm
   cases y:decide (s=m) with
   | false=>
    rw[y,P9]at q;exists q _ b
   | true=>
    rw[y,Qc]at q;exists⟨B,_,_,rfl,o,t,λH4 l=>?_⟩;symm;have e1:decide ((((sgAt PM (besL h w z)).filter λk=>stB k m).length:Int)<2)=decide ((mayN PM m (besL h w z):Int)<2):=rfl;rw[e1]
    cases d:decide ((mayN PM m (besL h w z):Int)<2) with
    | true=>
     rw[d,Sy]at q;exists q _ (b.trans l)
    | false=>
     rw[d,Rq]at q;exists⟨B,_,_,rfl,l _ _ o,t,by omega,λU N=>?_⟩;exists q _ ((b.trans l).trans N)
 . rw[Qp a]at q;rw[P3 a];refine⟨false,rfl,?_⟩;exists uM (s1 _ _ v) F e (s1 _ _ I) (s1 _ _ u) O D G λS j=>q S (s1.trans j)
def C7(t:TK):decide (tkC t=[114,101,97,99,104])=decide (t=.reach):=by cases t <;> decide
def HR{k:RK}(h:goesB .turn k=true):sgnK k=true:=by cases k <;> first | rfl | cases h
noncomputable def HS (h w:Int) (t:TK) (x:RR) (PM:∅) (z s:Int) (ms:∅):Bool:=match t with
 | .square=>squB h w x.m PM z s ms
 | .reach=>reaB h w x.cs x.m PM z s ms
 | _=>turnB h w x.m PM z s ms
noncomputable def C9 (h w:Int) (PP:List RR) (PM:∅) (t:TK) (r z s:Int) (ms:∅):Bool:=match PP[r.toNat]? with
 | none=>false
 | some x=>HS h w t x PM z s ms
abbrev LC(t:TK):Prop:=t=.square\/t=.reach\/t=.turn
def fZ(K:Frag)(c:Uk)(d:Ul):Sp:=#[3,∃ P L G A T M h w g PP cl PM t r z s ms,vs=[.ref P,.ref A,.ref T]/\Asks H c d P L G A T M h w g PP cl PM t r z s ms/\LC t/\formB h w g PP t r z s=true/\∀ a,Same H a->Q (.bl (C9 h w PP PM t r z s ms)) a]
def f8(K:Frag)(c:Uk)(d:Ul):TS:=#[":glDt;~D~Eckt0eh#3 glbiDt;~S~Tckt0ebi2df#1 h#4 gombscbi2df#0 dqr`0j,{?cka3a4a1abi2df#2 abi2df#3 abi2df#4 epgombscbi2df#0 dqr`1j,{[cka3a4a1abi2df#2 abi2df#3 abi2df#4 epj,{]cka3a4a1abi2df#2 abi2df#3 abi2df#4 e",[115,113,117,97,114,101],[114,101,97,99,104]]
variable{d:Ul}
def qx(h:fZ K c d vs H Q E):f8 K c d (eD9 Q) (start ["puzzle","masks","thought","floor","rule"] vs) H:=by
 obtain⟨P,L,G,A,T,M,h,w,g,PP,cl,PM,t,r,z,s,ms,rfl,X,N,f,q⟩:=h;obtain⟨dx,p,rs,h1,h2,h3⟩:=X.P.ex;obtain⟨z0,z1,s0,ac,PZ⟩:=uD f;have hg:=X.P.R.F.g1;have B:t≠.clue:=by rcases N with rfl | rfl | rfl <;> decide
 obtain⟨Z,y,j,m,hz⟩:=Ai B PZ;have O:=X.P.R.ok y (Qi j)
 have I:∀ b,Same H b->Q (.bl (HS h w t y PM z s ms)) b:=λb W=>by
  have J:=q b W;unfold C9 at J;rw[j]at J;exact J
 ac_nf;unfold f8;rw[ax,bP];refine methE (k:=.Puzzle) rfl X.P.ok h1 (by rfl) ?_;exists⟨P,L,G,h,w,g,PP,cl,rfl,X.P,λD i=>?_⟩;exists methE (k:=.Puzzle) rfl X.P.ok h1 (by rfl) ?_;exists⟨P,L,G,h,w,g,PP,cl,rfl,X.P,λl x e hl ab Y=>?_⟩;have a:Same H (upd H l (.lst (e.map V.ref))):=(P2 H).laid hl;generalize upd H l (.lst (e.map V.ref))=H1 at*;have S:=(P8.mp j).1;have PX:=Y.len;have u:e[r.toNat]? =some e[r.toNat]:=P1 #[0];dsimp only;refine ixT (a _ _ X.T.T) (v:=V.int r) rfl ?_;refine ixL Y.top (so Z u) ?_;symm;rw[az];exists ixT (a _ _ X.T.T) (v:=V.str (tx (tkC t))) rfl ?_;symm;rw[dJ,HF];rcases N with rfl | rfl | rfl
 . rw[P4 rfl];refine iteT ?_;exists ixT (a _ _ X.T.T) (v:=V.int z) rfl ?_;exists ixT (a _ _ X.T.T) (v:=V.int s) rfl ?_;exists ixT (a _ _ X.T.T) (v:=V.ref M) rfl ?_;exists⟨_,D,_,x,A,M,_,y.cs,PM,ms,_,_,z,s,h,w,g,rfl,a _ _ i,X.P.R.F,Y.at_ _ _ _ u j,X.n,a _ _ X.A,a _ _ X.T.M,by omega,λb o=>I b (a.trans o)⟩
 . have U:=(O.m0 (HP m)).2;rw[P3 (show ¬ TK.reach=TK.square by decide)];refine iteF ?_;rw[az];exists ixT (a _ _ X.T.T) (v:=V.str (tx (tkC .reach))) rfl ?_;symm;rw[dJ,C7,P4 rfl];refine iteT ?_;exists ixT (a _ _ X.T.T) (v:=V.int z) rfl ?_;exists ixT (a _ _ X.T.T) (v:=V.int s) rfl ?_;exists ixT (a _ _ X.T.T) (v:=V.ref M) rfl ?_;symm;have C:aV y.cs PM.length:=by rw[X.n];exact RR.cin22 O X.P.R.F
   exact⟨_,D,_,x,A,M,_,y.cs,PM,ms,_,_,z,s,h,w,g,rfl,a _ _ i,X.P.R.F,Y.at_ _ _ _ u j,C,RR.len26 O X.P.R.F,X.n,a _ _ X.A,a _ _ X.T.M,X.T.n,by omega,λb o=>I b (a.trans o)⟩
 . have U:=(O.m0 (HR m)).2;rw[P3 (show ¬ TK.turn=TK.square by decide)];refine iteF ?_;rw[az];exists ixT (a _ _ X.T.T) (v:=V.str (tx (tkC .turn))) rfl ?_;symm;rw[dJ,C7,P3 (show ¬ TK.turn=TK.reach by decide)];refine iteF ?_;exists ixT (a _ _ X.T.T) (v:=V.int z) rfl ?_;exists ixT (a _ _ X.T.T) (v:=V.int s) rfl ?_;exists ixT (a _ _ X.T.T) (v:=V.ref M) rfl ?_;exists⟨_,D,_,x,A,M,_,y.cs,PM,ms,_,_,z,s,h,w,g,rfl,a _ _ i,X.P.R.F,Y.at_ _ _ _ u j,X.n,a _ _ X.A,a _ _ X.T.M,by omega,z0,z1,λb o=>I b (a.trans o)⟩
def Ji:((List.range 64).all λm=>decide (Builtin.Int.intBits (m:Int)<=6))=true:=by decide+kernel
def st6{x:Int}(d:0<=m)(c:m<64)(h:stB m x=true):1<=x/\x<=6:=by
 have t:=Qw (Qj.mp Ji m.toNat (Qf.mpr #[0]));rw[show((m.toNat:Nat):Int)=m by omega]at t;unfold stB at h;rw[Qy,Qy]at h;have a:=Qw h.1;have b:=Qw h.2.1;omega
theorem A4:∀(rs:List (List Nat)),(∀ r∈rs,r.length<=2)->(catL 32 rs).length<=3*rs.length
 | [],_=>by simp[catL]
 | [x],h=>by have:=h x Qm;simp[catL];omega
 | x::y::r,h=>by
  rw[fX (by simp)];have h1:=h x Qm;have h2:=A4 (y::r) λz a=>h z (Qg _ a);simp only[Qn,QC] at*;omega
def mK{cs:List Nat}(h:cs.length<=16):(catL 32 (cs.map numC)).length<=48:=by
 have:=A4 (cs.map numC) λr a=>by obtain⟨x,_,rfl⟩:=Qe.mp a;exact gY
 rw[P0]at this;omega
def F8{k:RK}{m:Nat}{ns:List Nat}(F:FlOk h w g)(o:ns≠[])(a:∀ c∈ns,(c:Int)<h*w)(l:ns.Nodup)(len:ns.length<=16)(j:allK k=false)(k0:k≠.Rule)(p:n<=99)(d:numK k=false->n=0)(f:sgnK k=true->1<=(m:Int)/\(m:Int)<=g)(i:sgnK k=false->m=0):
  RR.Ok ⟨k,n,m,ns,ns.map λ(n:Nat)=>(n:Int)⟩ h w g:=by
 have b:=F.m;refine⟨k0,p,d,f,i,⟨λ_=>⟨o,len,a,l,rfl⟩,λe=>?_⟩,λx q=>?_,len⟩
 . rw[show allK k=false from j]at e;cases e
 . have:=a x q;omega
def strL{a b:List Nat}(h1:a.length<=400)(h2:b.length<=400)(q:Q (.str (tx (a++b))) H):cAdd (.str (tx a)) (.str (tx b)) H Q:=by
 rw[cL,oz];exact⟨by rw[gu,gu];exact aQ #[0],q⟩
def dTh(t:TK)(r z s:Int)(ms:∅):PyData:=.tuple [.str (tx (tkC t)),.int r,.int z,.int s,.list (ms.map PyData.int)]
def HU(t:TK)(r z s:Int)(ms:∅):PyData.eqv (dTh t r z s ms) (dTh t r z s ms)=true:=by
 unfold dTh;rw[PyData.eqv,PyData.eqvAll,PyData.eqvAll,PyData.eqvAll,PyData.eqvAll,PyData.eqvAll,PyData.eqvAll,Bx,n9,n9,n9,PyData.eqv];simp
variable{t:TK}
def JC{T:Addr}{r:Int}(x:IsTh H T M t r z s ms):DV K H (.ref T) (dTh t r z s ms):=
 .tup (Ud x.T) (.cons (.str _) (.cons (.int _) (.cons (.int _) (.cons (.int _) (.cons (.lst (Qh x.M) (.ints ms)) .nil)))))
def iQ(K:Frag):Sp:=#[3,∃ p h w g c,vs=[.ref p,.int c]/\IsFl H p h w g/\FlOk h w g/\∀ l a,Same H a->H l=none->a l=↥((nearL h w c).map V.int)->Q (.ref l) a]
def tnear(K:Frag):TS:=#[":oWm~/(<df#0 5bi0df#0 m~/(<df#0 6bi0df#1 ZRcQ:4abvbU5bi0df#1 6ep"]
def oX(K:Frag):TS:=#[":gln{^a1abi0df#1 e?c#2 Mh#2 Mh#3 [glueh#4 gTycuaOabI2df#1 a3eaOa2abI3df#1 eaOa2abv3df#1 eaOabv2df#1 a3ee?c#2 Mh#5 Mh#6 [}acj4"]
def pJ {D:Ends} {L t:Addr} {d r:Int} {a:∅} {v1 o m x z:Option V} (n:IsFl H p h w g) (C:w<=6) (F:1<=w) (y:H t=some (.tup [.int d,.int r])) (u:H L=↥(a.map V.int)) (E:a.length<=100)
  (k:∀ j,j L=↥((a++nearS h w d r).map V.int)->(∀ b,b≠L->j b=H b)->D.nx [↑p,v1,o,m,↑L,⇑d,⇑r] j):
  gTup K 2 (gCons (gName 5) (gCons (gName 6) gNil)) (V.ref t) [↑p,v1,o,m,↑L,x,z] H λB A=>tnear K D B A:=by
 refine ox y rfl ?_;rw[su];show tnear K D [↑p,v1,o,m,↑L,⇑d,⇑r] H;unfold tnear;refine uq (b:=(decide (0<=d)&&decide (d<h))&&(decide (0<=r)&&decide (r<w))) (v:=d*w+r) (l:=L) (i:=4) rfl ?_ u #[0] ?_ ?_
 . intro R c;unfold mR;symm
   cases q:decide (0<=d) with
   | false=>
    rw[q,P9,P9]at c;symm;exact c
   | true=>
    rw[q,Qc]at c;exists ixT n (v:=V.int h) rfl ?_;symm
    cases e:decide (d<h) with
    | false=>
     rw[e,P9]at c;symm;exact c
    | true=>
     rw[e,Qc]at c;symm
     cases f:decide (0<=r) with
     | false=>
      rw[f,P9]at c;symm;exact c
     | true=>
      rw[f,Qc]at c;exists ixT n (v:=V.int w) rfl ?_;symm;exact c
 . intro Q s;exists ixT n (v:=V.int w) rfl ?_;exists⟨.inr ⟨by omega,by omega⟩,s⟩
 . intro j e1 e2;refine k j ?_ e2;rw[e1];rfl
def sV(h w c:Int){i:Nat}{d r:Int}(a:(nearP w c)[i]? =some (d,r)):((nearP w c).take (i+1)).flatMap (λp=>nearS h w p.1 p.2)=((nearP w c).take i).flatMap (λp=>nearS h w p.1 p.2)++nearS h w d r:=by
 rw[List.take_add_one,a,List.flatMap_append];simp
def Da(h:iQ K vs H Q E):oX K (eD9 Q) (start ["_law_floor_here","_law_cell","_law_row","_law_column","_law_found","_law_down","_law_right"] vs) H:=by
 obtain⟨p,h,w,g,c,rfl,hp,F,q⟩:=h;obtain⟨h0,h1,I,G,ab,g0,g1⟩:=id F;exists oX;refine ixT hp (v:=V.int w) rfl ?_;symm;rw[Jc];refine⟨⟨by omega,by omega⟩,λT hT=>?_⟩;obtain⟨B,m,C,eT⟩:=aU (.tup [.int (c/w),.int (c%w)]) hT;rw[m];refine ox eT rfl ?_;rw[su];exists⟨aQ #[1],λL A=>?_⟩;have z:(upd B L (.lst [])) L=↥(([]:∅).map V.int):=ai;have sL:Same B (upd B L (.lst [])):=(P2 B).laid A;generalize upd B L (.lst [])=H2 at*;refine⟨lnR rfl,λP i1=>?_⟩;obtain⟨H3,m,k1,e1⟩:=aU (.tup [V.int (c/w-1),V.int (c%w)]) i1;rw[m];refine⟨lnR rfl,λO Z=>?_⟩;obtain⟨H4,m,k2,e2⟩:=aU (.tup [V.int (c/w),V.int (c%w-1)]) Z;rw[m];refine⟨lnR rfl,λM X=>?_⟩;obtain⟨H5,m,k3,e3⟩:=aU (.tup [V.int (c/w),V.int (c%w+1)]) X;rw[m];refine⟨lnR rfl,λN Y=>?_⟩;obtain⟨H6,m,k4,e4⟩:=aU (.tup [V.int (c/w+1),V.int (c%w)]) Y;rw[m];refine⟨lnR rfl,λU S=>?_⟩;obtain⟨H7,m,k5,eU⟩:=aU (.lst [V.ref P,V.ref O,V.ref M,V.ref N]) S;rw[m];have f1:=k5 _ _ (k4 _ _ (k3 _ _ (k2 _ _ e1)));have f2:=k5 _ _ (k4 _ _ (k3 _ _ e2));have f3:=k5 _ _ (k4 _ _ e3);have f4:=k5 _ _ e4;have s:=((k1.trans k2).trans k3).trans k4;have fL:=(s.trans k5) _ _ z;have J:p≠L:=λe=>by have:=C _ _ hp;rw[e,A]at this;cases this
 have n1:P≠L:=λe=>by rw[e,z]at i1;cases i1
 have n2:O≠L:=λe=>by rw[e,k1 _ _ z]at Z;cases Z
 have n3:M≠L:=λe=>by rw[e,(k1.trans k2) _ _ z]at X;cases X
 have n4:N≠L:=λe=>by rw[e,((k1.trans k2).trans k3) _ _ z]at Y;cases Y
 have nU:U≠L:=λe=>by rw[e,s _ _ z]at S;cases S
 have fp:=(s.trans k5) _ _ (sL _ _ (C _ _ hp));have W:=(sL.trans s).trans k5;refine⟨⟨_,Qh eU⟩,?_⟩;refine dF (K:=K) (xs:=[V.ref P,V.ref O,V.ref M,V.ref N]) (λi σ x=>∃(R v6:Option V),σ=[↑p,⇑c,⇑(c/w),⇑(c%w),↑L,R,v6]/\(∀ b,b≠L->x b=H7 b)/\x L=↥((((nearP w c).take i).flatMap λp=>nearS h w p.1 p.2).map V.int)) ⟨none,none,rfl,λ_ _=>rfl,fL⟩ (λi σ x _ ⟨_,_,_,j,_⟩=>Qh (by rw[j U nU];exact eU)) ?_ ?_
 . rintro i v σ H8 k ⟨R,v6,rfl,j,l⟩
   have d:((((nearP w c).take i).flatMap λp=>nearS h w p.1 p.2)).length<=100:=by
    have:∀(D:List (Int × Int)),(D.flatMap λp=>nearS h w p.1 p.2).length<=D.length:=λD=>by
     induction D with
     | nil=>exact Qd _
     | cons a r ih=>
      rw[List.flatMap_cons,Qn,QC];have:(nearS h w a.1 a.2).length<=1:=by unfold nearS;split <;> simp
      omega
    have:=this ((nearP w c).take i);rw[Rt]at this;have:(nearP w c).length=4:=rfl;omega
   have t:IsFl H8 p h w g:=by unfold IsFl;rw[j p J];exact fp
   match i,k,l,d with
   | 0,k,l,d=>
    cases k;exact pJ t G I (by rw[j _ n1];exact f1) l d λx y u=>⟨_,_,rfl,λb f=>(u b f).trans (j b f),by rw[y,sV h w c (i:=0) rfl]⟩
   | 1,k,l,d=>
    cases k;exact pJ t G I (by rw[j _ n2];exact f2) l d λx y u=>⟨_,_,rfl,λb f=>(u b f).trans (j b f),by rw[y,sV h w c (i:=1) rfl]⟩
   | 2,k,l,d=>
    cases k;exact pJ t G I (by rw[j _ n3];exact f3) l d λx y u=>⟨_,_,rfl,λb f=>(u b f).trans (j b f),by rw[y,sV h w c (i:=2) rfl]⟩
   | 3,k,l,d=>
    cases k;exact pJ t G I (by rw[j _ n4];exact f4) l d λx y u=>⟨_,_,rfl,λb f=>(u b f).trans (j b f),by rw[y,sV h w c (i:=3) rfl]⟩
   | n+4,k,_,_=>cases k
 . rintro σ H8 ⟨R,v6,rfl,j,l⟩;exists q L H8 (λb o e=>?_) (C.free A) l;have f:b≠L:=λe'=>by rw[e']at e;rw[C _ _ e]at A;cases A
   rw[j b f];exact W _ _ (C _ _ e)
noncomputable def HV (h w:Int) (x:RR) (PM:∅) (t:TK) (z s:Int) (ms:∅):Bool:=match t with
 | .count=>cntB x.cs x.n x.m PM z s ms
 | .sum=>sumB x.cs x.n PM z s ms
 | .step=>stepB x.cs PM z s ms
 | _=>waysB x.k h w x.cs x.n x.m PM z s ms
noncomputable def uN (h w:Int) (PP:List RR) (PM:∅) (t:TK) (r z s:Int) (ms:∅):Bool:=match PP[r.toNat]? with
  | none=>false
  | some x=>HV h w x PM t z s ms
def f9(K:Frag)(c:Uk)(d:Ul):Sp:=#[3,∃ P L G A T M h w g PP cl PM t r z s ms,vs=[.ref P,.ref A,.ref T]/\Asks H c d P L G A T M h w g PP cl PM t r z s ms/\(t=.count\/t=.sum\/t=.ways)/\(∀ m∈PM,0<=m/\m<64)/\formB h w g PP t r z s=true/\∀ a,Same H a->Q (.bl (uN h w PP PM t r z s ms)) a]
def gb(K:Frag)(c:Uk)(d:Ul):TS:=#[":glbiDt;~S~Tckt0ebi2df#1 h#3 gombscbi2df#0 dqr`0j,}bcka3a1abi2df#2 abi2df#3 abi2df#4 epgombscbi2df#0 dqr`1j,}ccka3a1abi2df#2 abi2df#3 abi2df#4 epj,}dcka3a1abi2df#2 abi2df#3 abi2df#4 e",[99,111,117,110,116],[115,117,109]]
def qy(h:f9 K c d vs H Q E):gb K c d (eD9 Q) (start ["puzzle","masks","thought","rule"] vs) H:=by
 obtain⟨P,L,G,A,T,M,h,w,g,PP,cl,PM,t,r,z,s,ms,rfl,X,C,D,f,q⟩:=h;obtain⟨dx,p,rs,h1,h2,h3⟩:=X.P.ex;obtain⟨z0,z1,s0,Z,PZ⟩:=uD f;have hg:=X.P.R.F.g1;have J:=X.P.R.F.m;obtain⟨N,y,i,S,hz⟩:=Ai (by rcases C with rfl | rfl | rfl <;> decide) PZ;have O:=X.P.R.ok y (Qi i);have e:aV y.cs PM.length:=by rw[X.n];exact RR.cin22 O X.P.R.F
 ac_nf;unfold gb;rw[ax,bP,fU];refine methE (k:=.Puzzle) rfl X.P.ok h1 (by rfl) ?_;exists⟨P,L,G,h,w,g,PP,cl,rfl,X.P,λl u b U x Y=>?_⟩;have a:Same H (upd H l (.lst (b.map V.ref))):=(P2 H).laid U;generalize upd H l (.lst (b.map V.ref))=H1 at*;have I:=(P8.mp i).1;have PX:=Y.len;have j:b[r.toNat]? =some b[r.toNat]:=P1 #[0]
 have fin:∀ o,Same H1 o->Q (.bl (HV h w y PM t z s ms)) o:=λo W=>by
  have B:=q o (a.trans W);unfold uN at B;rw[i]at B;exact B
 dsimp only;refine ixT (a _ _ X.T.T) (v:=V.int r) rfl ?_;refine ixL Y.top (so N j) ?_;symm;rw[az];exists ixT (a _ _ X.T.T) (v:=V.str (tx (tkC t))) rfl ?_;symm;rw[dJ,Jd];rcases C with rfl | rfl | rfl
 . rw[P4 rfl];refine iteT ?_;exists ixT (a _ _ X.T.T) (v:=V.int z) rfl ?_;exists ixT (a _ _ X.T.T) (v:=V.int s) rfl ?_;exists ixT (a _ _ X.T.T) (v:=V.ref M) rfl ?_;exists⟨_,_,u,A,M,_,y.cs,PM,ms,_,_,z,s,rfl,Y.at_ _ _ _ j i,e,a _ _ X.A,a _ _ X.T.M,by omega,fin⟩
 . rw[P3 #[1]];refine iteF ?_;rw[az];exists ixT (a _ _ X.T.T) (v:=V.str (tx (tkC .sum))) rfl ?_;symm;rw[dJ,HH,P4 rfl];refine iteT ?_;exists ixT (a _ _ X.T.T) (v:=V.int z) rfl ?_;exists ixT (a _ _ X.T.T) (v:=V.int s) rfl ?_;exists ixT (a _ _ X.T.T) (v:=V.ref M) rfl ?_;exists⟨_,_,u,A,M,_,y.cs,PM,ms,_,_,z,s,rfl,Y.at_ _ _ _ j i,e,D,a _ _ X.A,a _ _ X.T.M,fin⟩
 . rw[P3 #[1]];refine iteF ?_;rw[az];exists ixT (a _ _ X.T.T) (v:=V.str (tx (tkC .ways))) rfl ?_;symm;rw[dJ,HH,P3 #[1]];refine iteF ?_;exists ixT (a _ _ X.T.T) (v:=V.int z) rfl ?_;exists ixT (a _ _ X.T.T) (v:=V.int s) rfl ?_;exists ixT (a _ _ X.T.T) (v:=V.ref M) rfl ?_;exists⟨_,_,u,A,M,_,y.cs,PM,ms,_,_,z,s,h,w,g,rfl,Y.at_ _ _ _ j i,x,X.P.R.F,e,by rw[X.n];omega,D,by omega,by omega,a _ _ X.A,a _ _ X.T.M,fin⟩
noncomputable def strA (h w g:Int) (PP:List RR) (cl PM:∅) (t:TK) (r z s:Int) (ms:∅):Bool:=
 if lineK t then(if t=.step then uN h w PP PM t r z s ms else C4 g PP cl PM t r z s ms) else if nbrK t then uN h w PP PM t r z s ms else C9 h w PP PM t r z s ms
def ig(K:Frag)(c:Uk)(d:Ul):Sp:=#[3,∃ P L G A T M h w g PP cl PM t r z s ms,vs=[.ref P,.ref A,.ref T]/\Asks H c d P L G A T M h w g PP cl PM t r z s ms/\lineK t=true/\(∀ m∈PM,0<=m/\m<64)/\formB h w g PP t r z s=true/\∀ a,Same H a->Q (.bl (strA h w g PP cl PM t r z s ms)) a]
def ii(K:Frag)(c:Uk)(d:Ul):TS:=#[":glbi2df#0 h#3 glbi2df#2 h#4 glbi2df#3 h#5 glbi2df#4 h#6 gombsc3dqr`0j,}ecaDt;}f}gckt0ea4a5a6epglbiDt;~S~Tckt0ebi2df#1 h#7 gombsc3dqr`1j,}hcka7a1a4a5a6epgombsc3dqr`2j,}ickaDt;~D~Eckt0ea7a1a4a5a6epgombsc3dqr`3j,}jcka7a1a4a5a6epj,}kcka7a1a4a5a6e",[99,108,117,101],[111,110,108,121],[112,108,97,99,101],[115,116,101,112]]
def tX(h:ig K c d vs H Q E):ii K c d (eD9 Q) (start ["puzzle","masks","thought","kind","cell","sign","more","rule"] vs) H:=by
 obtain⟨P,L,G,A,T,M,h,w,g,PP,cl,PM,t,r,z,s,ms,rfl,X,S,mm,f,q⟩:=h;obtain⟨dx,p,rs,h1,h2,h3⟩:=X.P.ex;obtain⟨z0,z1,s0,af,PZ⟩:=uD f;have ac:=X.P.C.len;have hg:=X.P.R.F.g1;unfold strA at q;rw[S,Qt rfl]at q;exists ii;refine ixT X.T.T (v:=V.str (tx (tkC t))) rfl ?_;exists ixT X.T.T (v:=V.int z) rfl ?_;exists ixT X.T.T (v:=V.int s) rfl ?_;exists ixT X.T.T (v:=V.ref M) rfl ?_;symm;rw[az];symm;rw[dJ,Fc];by_cases x:t=.clue
 . subst x;rw[Qp #[1]]at q;rw[P4 rfl];refine iteT ?_;refine methE (k:=.Puzzle) rfl X.P.ok h1 (by rfl) ?_;exists⟨P,L,G,h,w,g,PP,cl,rfl,X.P,λl Z=>?_⟩;have a:Same H (upd H l (.lst (cl.map V.int))):=(P2 H).laid Z;exact⟨l,M,z,s,cl,ms,rfl,ai,z0,by omega,a _ _ X.T.M,λb m=>q b (a.trans m)⟩
 . rw[P3 x];obtain⟨r0,y,u,_,hz⟩:=Ai x PZ
   have q2:t≠.step->∀ b,Same H b->Q (.bl (C2 g t y PM z s ms)) b:=λhn b s'=>by
    have o:=q b s';rw[Qp hn]at o
    have e:C4 g PP cl PM t r z s ms=C2 g t y PM z s ms:=by
     unfold C4;cases t <;> first | exact absurd rfl x | (dsimp only;rw[u])
    rw[e]at o;exact o
   refine iteF ?_;refine methE (k:=.Puzzle) rfl X.P.ok h1 (by rfl) ?_;exists⟨P,L,G,h,w,g,PP,cl,rfl,X.P,λl N i Z ae Y=>?_⟩;have a:Same H (upd H l (.lst (i.map V.ref))):=(P2 H).laid Z;generalize upd H l (.lst (i.map V.ref))=H1 at*;have ab:=(P8.mp u).1;have PX:=Y.len;have B:i[r.toNat]? =some i[r.toNat]:=P1 #[0];have O:=X.P.R.ok y (Qi u);have j:aV y.cs PM.length:=by rw[X.n];exact RR.cin22 O X.P.R.F
   dsimp only;refine ixT (a _ _ X.T.T) (v:=V.int r) rfl ?_;refine ixL Y.top (so r0 B) ?_;symm;rw[az];symm;rw[dJ,J9];by_cases I:t=.only
   . subst I;rw[P4 rfl];refine iteT ?_;exists⟨_,_,N,A,M,_,y.cs,PM,ms,_,_,z,s,rfl,Y.at_ _ _ _ B u,j,a _ _ X.A,a _ _ X.T.M,by omega,λb m=>q2 #[1] b (a.trans m)⟩
   . rw[P3 I];refine iteF ?_;rw[az];symm;rw[dJ,Jb];by_cases D:t=.place
     . subst D;rw[P4 rfl];refine iteT ?_;refine methE (k:=.Puzzle) rfl X.P.ok (a _ _ h1) (by rfl) ?_;exists⟨P,L,G,h,w,g,PP,cl,rfl,X.P.same a,λp3 U=>?_⟩;exists⟨_,p3,_,N,A,M,_,y.cs,PM,ms,_,_,z,s,h,w,g,rfl,U,Y.at_ _ _ _ B u,j,a _ _ X.A,a _ _ X.T.M,λb m=>q2 #[1] b (a.trans m)⟩
     . rw[P3 D];refine iteF ?_;rw[az];symm;rw[dJ,Kb];by_cases J:t=.step
       . subst J;rw[P4 rfl];refine iteT ?_;exists⟨_,_,N,A,M,_,y.cs,PM,ms,_,_,z,s,rfl,Y.at_ _ _ _ B u,j,hz,mm,a _ _ X.A,a _ _ X.T.M,λb m=>?_⟩;have o:=q b (a.trans m);rw[Qt rfl]at o;unfold uN at o;rw[u]at o;exact o
       . rw[P3 J]
         have W:t=.pair:=by
          revert S x I D J
          cases t <;> intro S x I D J <;> first | rfl | exact absurd rfl x | exact absurd rfl I | exact absurd rfl D | exact absurd rfl J | cases S
         subst W;refine iteF ?_;exists⟨_,_,N,A,M,_,y.cs,PM,ms,_,_,z,s,rfl,Y.at_ _ _ _ B u,j,mm,a _ _ X.A,a _ _ X.T.M,λb m=>q2 #[1] b (a.trans m)⟩
def qz(K:Frag)(c:Uk)(d:Ul):Sp:=#[3,∃ P L G A T M h w g PP cl PM t r z s ms,vs=[.ref P,.ref A,.ref T]/\Asks H c d P L G A T M h w g PP cl PM t r z s ms/\(∀ m∈PM,0<=m/\m<64)/\formB h w g PP t r z s=true/\∀ a,Same H a->Q (.bl (strA h w g PP cl PM t r z s ms)) a]
def qA(K:Frag)(c:Uk)(d:Ul):TS:=#[":gow~r}lCbi2df#0 j,}mckta0a1a2epgow~r}nCbi2df#0 j,}ockta0a1a2epj,}pckta0a1a2e"]
def nbrA(h:nbrK t=true):t=.count\/t=.sum\/t=.ways:=by cases t <;> first | exact .inl rfl | exact .inr (.inl rfl) | exact .inr (.inr rfl) | cases h
def regA(h1:lineK t=false)(h2:nbrK t=false):LC t:=by cases t <;> first | exact .inl rfl | exact .inr (.inl rfl) | exact .inr (.inr rfl) | (cases h1;done) | (cases h2;done)
theorem Ey(h:qz K c d vs H Q E):qA K c d (eD9 Q) (start ["puzzle","masks","thought"] vs) H:=by
 obtain⟨P,L,G,A,T,M,h,w,g,PP,cl,PM,t,r,z,s,ms,rfl,X,a,f,q⟩:=h;ac_nf;unfold qA;rw[ax,az];exists ixT X.T.T (v:=V.str (tx (tkC t))) rfl ?_;symm;rw[J6]
 cases e1:lineK t with
 | true=>
  refine iteT ?_;exact⟨P,L,G,A,T,M,h,w,g,PP,cl,PM,t,r,z,s,ms,rfl,X,e1,a,f,q⟩
 | false=>
  unfold strA at q;rw[e1,Qp P7]at q;refine iteF ?_;rw[az];exists ixT X.T.T (v:=V.str (tx (tkC t))) rfl ?_;symm;rw[Lv]
  cases e2:nbrK t with
  | true=>
   rw[e2,Qt rfl]at q;refine iteT ?_;exact⟨P,L,G,A,T,M,h,w,g,PP,cl,PM,t,r,z,s,ms,rfl,X,nbrA e2,a,f,q⟩
  | false=>
   rw[e2,Qp P7]at q;refine iteF ?_;exists⟨P,L,G,A,T,M,h,w,g,PP,cl,PM,t,r,z,s,ms,rfl,X,regA e1 e2,f,q⟩
noncomputable def alwA (h w g:Int) (PP:List RR) (cl PM:∅) (t:TK) (r z s:Int) (ms:∅):Bool:=formB h w g PP t r z s&&strA h w g PP cl PM t r z s ms
def jF(K:Frag)(c:Uk)(d:Ul):Sp:=#[3,∃ P L G A T M h w g PP cl PM t r z s ms,vs=[.ref P,.ref A,.ref T]/\Asks H c d P L G A T M h w g PP cl PM t r z s ms/\(∀ m∈PM,0<=m/\m<64)/\∀ a,Same H a->Q (.bl (alwA h w g PP cl PM t r z s ms)) a]
def qB(K:Frag)(c:Uk)(d:Ul):TS:=#[":jG,}qckta0a2e,}rckta0a1a2e"]
theorem Ez(h:jF K c d vs H Q E):qB K c d (eD9 Q) (start ["puzzle","masks","thought"] vs) H:=by
 obtain⟨P,L,G,A,T,M,h,w,g,PP,cl,PM,t,r,z,s,ms,rfl,X,e,q⟩:=h;exists qB;refine⟨t,P,L,G,T,M,h,w,g,r,z,s,PP,cl,ms,rfl,X.P,X.T,λj a=>?_⟩;unfold alwA at q
 cases b:formB h w g PP t r z s with
 | false=>
  rw[b,P9]at q;exact⟨false,rfl,iteF (q _ a)⟩
 | true=>
  rw[b,Qc]at q;refine⟨true,rfl,iteT ?_⟩;exists⟨P,L,G,A,T,M,h,w,g,PP,cl,PM,t,r,z,s,ms,rfl,X.same a,e,b,λi f=>q i (a.trans f)⟩
def stL(ms:∅)(c s:Int):∅:=(List.range ms.length).map λ(i:Nat)=>if (i:Int)=c then woI (ms.getD i 0) s else ms.getD i 0
def pK(K:Frag):Sp:=#[3,∃ p ms c s,vs=[.ref p,.int c,.int s]/\H p=↥(ms.map V.int)/\ms.length<=900/\s<=100000/\∀ l a,Same H a->H l=none->a l=↥((stL ms c s).map V.int)->Q (.ref l) a]
def uO(K:Frag):TS:=#[":jz&---12 ~Lca0e?c#2 Mh#1 Mh#2 [H~mmbsc13,'Ica2a4e2"]
def HW{K:Frag}{vs:List V}{H:Hp}{Q:VK}{E:XK}(h:pK K vs H Q E):uO K (eD9 Q) (start ["masks","cell","sign"] vs) H:=by
 obtain⟨p,ms,c,s,rfl,e,o,n,k⟩:=h;exists uO;refine⟨p,rfl,⟨_,Qh e⟩,?_⟩;refine sk (xs:=ms.map V.int) (λ_=>true) (λi=>.int (if (i:Int)=c then woI (ms.getD i 0) s else ms.getD i 0)) (by rw[P0];exact o) #[1] (Qh e) ?_ ?_ ?_
 . intro i x a R f d k1;exact k1 _ (P2 _)
 . intro i x a j f u d k1;obtain⟨m,g,rfl⟩:=bj f;have q:=k1 _ (P2 a);rw[ja g]at q;show tIf _ _ _ [none,⇑i,⇑m,⇑c,⇑s] a j;symm;by_cases b:(i:Int)=c
   . rw[Qt b]at q;rw[P4 b];exact iteT ⟨m,s,rfl,n,q⟩
   . rw[Qp b]at q;rw[P3 b];exact iteF q
 . intro l a r d t;refine k l a d r ?_;rw[t,bq,P0];unfold stL;rw[QO];rfl
structure Tho where
 t:TK
 r:Int
 z:Int
 s:Int
 ms:∅
def Mh{g:Int}(a:1<=g)(b:g<=6):(2:Int)^g.toNat<=64:=by
 have e:g=1\/g=2\/g=3\/g=4\/g=5\/g=6:=by omega
 rcases e with rfl | rfl | rfl | rfl | rfl | rfl <;> decide
def Ki:((List.range 64).all λm=>(List.range 6).all λs=>decide (0<=woI (m:Int) (1+(s:Int))/\woI (m:Int) (1+(s:Int))<=m)&&((List.range 6).all λx=>decide (x=s)||decide (stB (woI (m:Int) (1+(s:Int))) (1+(x:Int))=stB (m:Int) (1+(x:Int))))&&(!stB (m:Int) (1+(s:Int))||decide ((sgL (woI (m:Int) (1+(s:Int)))).length+1=(sgL (m:Int)).length)))=true:=by decide+kernel
def LD{m s:Int}(h:0<=m)(c:m<64)(b:1<=s)(d:s<=6):(0<=woI m s/\woI m s<=m)/\(∀ x,1<=x->x<=6->x≠s->stB (woI m s) x=stB m x)/\(stB m s=true->(sgL (woI m s)).length+1=(sgL m).length):=by
 have t:=Qj.mp (Qj.mp Ki m.toNat (Qf.mpr #[0])) (s-1).toNat (Qf.mpr #[0]);rw[show((m.toNat:Nat):Int)=m by omega,show 1+(((s-1).toNat:Nat):Int)=s by omega,Qy,Qy]at t;refine⟨Qw t.1.1,λx e g f=>?_,λa=>?_⟩
 . have:=Qj.mp t.1.2 (x-1).toNat (Qf.mpr #[0]);rw[show 1+(((x-1).toNat:Nat):Int)=x by omega,P3 #[0],Rq]at this;exact Qw this
 . have:=t.2;rw[a,RH,Rq]at this;exact Qw this
variable{ms:∅}
def rb{z s:Int}:(stL ms z s).length=ms.length:=by unfold stL;rw[P0,QU]
def ce{k:Nat}(a:k<ms.length):ms.getD k 0∈ms:=by rw[List.getD,P1 a];exact QE _
def dBk(th:Tho):PyData:=dTh th.t th.r th.z th.s th.ms
def Fj(t:TK)(r z s:Int)(ms:∅):PyData.canLay0 (dTh t r z s ms)=true/\PyData.depth (dTh t r z s ms)<=2:=by
 have a:PyData.strOk (tx (tkC t))=true:=FU (by cases t <;> decide);unfold dTh;simp[PyData.canLay0,PyData.canLayAll0,a,oo,PyData.depth,PyData.depthAll,kC]
abbrev txk(t:TK):Str:=tx (tkC t)
def Kj{a b:TK}:decide (txk a=txk b)=decide (a=b):=by cases a <;> cases b <;> decide+kernel
def KdL(H:Hp)(a:Addr)(b:List TK):Prop:=H a=↥((b.map txk).map V.str)
structure LE(H:Hp)(f C:Addr)(fl:∅)(cs:List Nat):Prop where
 f:H f=↥(fl.map V.int)
 C:H C=↥((cs.map λ(n:Nat)=>(n:Int)).map V.int)
 lt:∀ c∈cs,c<fl.length
 len:cs.length<=16
 sg:∀ x∈fl,1<=x/\x<=6
abbrev iN(cs:List Nat):∅:=cs.map λ(n:Nat)=>(n:Int)
variable{cs:List Nat}
def Db{c:Int}(h:c∈iN cs):0<=c/\c.toNat∈cs:=by
 obtain⟨n,a,rfl⟩:=Qe.mp h;exact⟨by omega,by rw[QV];exact a⟩
def Chn(b:Bool)(c:∅)(a:List Nat):Prop:=if b=true then risB (sgAt c (iN a))=true else(sgAt c (iN a)).Nodup
theorem Dc:∀{xs:∅} {x:Int},risB xs=true->(∀ y,xs.getLast? =some y->y<x)->risB (xs++[x])=true
 | [],_,_,_=>rfl
 | [y],x,_,h=>by
  show(decide (y<x)&&risB [x])=true;rw[P4 (h y rfl)];rfl
 | y::z::r,x,h1,h2=>by
  have e:risB (y::z::r)=(decide (y<z)&&risB (z::r)):=rfl;rw[e,Qy]at h1;show(decide (y<z)&&risB (z::r++[x]))=true;rw[h1.1,Dc h1.2 (λu a=>h2 u (by rw[List.getLast?_cons_cons];exact a))];rfl
def HX(a:∅)(b:List Nat)(n:Nat):sgAt a (iN (b++[n]))=sgAt a (iN b)++[a.getD n 0]:=by
 unfold sgAt iN;simp
def F9{i:Int}(h0:0<=i)(h1:i<100):Str.ofString (toString i)=tx (numC i.toNat)/\i.natAbs.log2<1920:=by
 have e:i=((i.toNat:Nat):Int):=by omega
 have a:=vV (n:=i.toNat) #[0];have b:=vW (n:=i.toNat) #[0];rw[← e]at a b;exact⟨a,b⟩
def LF{K:Frag}{H:Hp}{Q:VK}{C:Addr}{σ:St}{i:Nat}(d:σ[i]? =some ↑C)(b:H C=↥((iN cs).map V.int))(g:cs.length<=16)(k:∀ c∈cs,c<100)(q:∀ a,Same H a->Q (.str (tx (catL 32 (cs.map numC)))) a):tBM K "str" kH (tC (.str (tx [32]))) (tCons (tComp [none,none] (iList K (tVar i)) (gName 1) tTrue (tCB kStr (tCons (tVar 1) tNil))) tNil) σ H Q:=by
 simp only[gt,w_c,bO,dj,bE,Jw];refine⟨FN,V.ref C,d,C,rfl,⟨_,Qh b⟩,?_⟩;refine A0 b #[0] k λl m g e j=>?_
 refine E9 j (ur (by simp;omega) (λt h=>by
  obtain⟨z,f,rfl⟩:=Qe.mp h;obtain⟨x,_,rfl⟩:=Qe.mp f;rw[gu];exact Qa gY #[1]) (by rw[gu];decide)) ?_
 rw[Cv,vS];exact q _ e
structure Cs58(h w:Int)(cs:List Nat):Prop where
 ne:cs≠[]
 nd:cs.Nodup
 lt:∀ c∈cs,(c:Int)<h*w
 len:cs.length<=16
def Cs58.sub{h w:Int}{a:List Nat}(X:Cs58 h w cs)(s:a.Sublist cs)(d:a≠[]):Cs58 h w a:=⟨d,X.nd.sublist s,λc b=>X.lt c (s.subset b),Qa s.length_le X.len⟩
def Cs58.lt100{h w g:Int}(X:Cs58 h w cs)(F:FlOk h w g):∀ c∈cs,c<100:=λc a=>by
 have:=X.lt c a;have:=F.m;omega
def Jj{h w g:Int}{a:∅}(Y:Cs58 h w cs)(b:a.length=(h*w).toNat)(c:∀ x∈a,1<=x/\x<=g){x:Int}(d:x∈iN cs):0<=x/\x<a.length/\1<=a.getD x.toNat 0/\a.getD x.toNat 0<=g:=by
 have m:=Db d;have l:=Y.lt _ m.2;have:x.toNat<a.length:=by omega
 have e:a.getD x.toNat 0=a[x.toNat]:=by rw[List.getD,P1 this];rfl
 have:=c _ (QE this);rw[e];omega
def oY(h:cs≠[]):cs.map numC≠[]:=by simp[h]
theorem Dd:∀(xs:∅),(∀ x∈xs,0<=x/\x<=6)->0<=xs.sum/\xs.sum<=6*xs.length
 | [],_=>by simp
 | x::r,h=>by
  have a:=h x Qm;have b:=Dd r λy c=>h y (Qg _ c);rw[Ua,QC];omega
def HY{a cs:∅}{j:Nat}(b:j<cs.length):(sgAt a cs).getD j 0=a.getD (cs.getD j 0).toNat 0:=by
 unfold sgAt;rw[List.getD,P5,P1 b];show a.getD (cs[j]).toNat 0=_;rw[show cs.getD j 0=cs[j] by rw[List.getD,P1 b];rfl]
section
variable{c:Uk}{h w g:Int}{PP:List RR}{cl cl':∅}{ks:List TK}
open Classical in
end
theorem ly:∀{a:List PyData},(∀ d∈a,PyData.eqv d d=true)->PyData.eqvAll a a=true
 | [],_=>by rw[PyData.eqvAll]
 | d::r,h=>by rw[PyData.eqvAll,h d (.head _),ly λx b=>h x (.tail _ b)];rfl
def cp{b:Bool}{A B:Prop}(e:b=true)(h:A):if b=true then A else B:=by rw[e];exact iteT h
def cq{b:Bool}{A B:Prop}(e:b=false)(h:B):if b=true then A else B:=by rw[e];exact iteF h
structure Z5 where
 P:Program
 w:World
 K:Frag
 mg:Str->Option Value
 base:Heap
structure Bt3(Z:Z5):Prop extends Bt2 Z.mg where
 ns:∀{x:Str} {v:Value},nsIn Z.K mainGlobals x=some (some v)->Z.mg x=some v
def Nn(K:Frag)(b:Str):Prop:=nsIn K mainGlobals b=some none
def Zn(K:Frag):Prop:=Nn K "len"/\Nn K "abs"/\Nn K "min"/\Nn K "max"/\Nn K "sorted"/\Nn K "any"/\Nn K "isinstance"/\Nn K "list"/\Nn K "int"/\Nn K "bool"/\Nn K "str"/\Nn K "tuple"/\Nn K "reversed"/\Nn K "set"/\Nn K "range"/\Nn K "zip"/\Nn K "all"/\Nn K "sum"/\Nn K "enumerate"
def LG{Z:Z5}{h:Heap}(X:Z.K.In h)(G:h.Ns mainGlobals Z.mg)(z:Zn Z.K):Bt3 Z:=by
 obtain⟨a,b,c,d,e,f,g,i,j,k,l,m,n,o,p,q,r,s,t⟩:=z;have N:∀{b:Str},Nn Z.K b->Z.mg b=none:=λh=>Tk X G h;exact⟨⟨⟨N a,N b,N c,N d,N e,N f,N g,N i,N j,N k,N l,N m,N n,N o,N p,N q⟩,N r,N s,N t⟩,λh=>PySem.W.mg_of X G h⟩
structure De(K:Frag)(x:Str)(st:Stmt):Prop where
 ex:∃(f:Addr) (fd:FuncData),nsIn K mainGlobals x=some ↑f/\Fun K x x st f fd
structure Me(K:Frag)(x qual:Str)(st:Stmt)(f:Addr):Prop where
 ex:∃ fd:FuncData,Fun K x qual st f fd/\isFn K (.ref f)=true
structure ClsP(K:Frag)(x:Str)(A f:Addr):Prop where
 q:nsIn K mainGlobals x=some ↑A
 m1:PySem.W.makesIn K A=true
 m2:findIn K (.ref A) "__init__"=some ↑f
 m4:keepIn K (.ref A)=true
 cl:Cls K A
def mkC(a h d c f g b e:Addr):Uk:=⟨λk=>match k with | .Rule=>a | .Unlike=>a | .Sum=>h | .Rising=>d | .Seen=>c | .Count=>f | .Joined=>g | .NoSquare=>b | .Ring=>e,λk=>match k with | .Rule=>false | _=>true⟩
def mk1(c:Uk)(k:RK):Uk:=⟨c.A,match k with | .Joined=>(λi=>match i with | .Joined=>true | _=>false) | .Ring=>(λi=>match i with | .Ring=>true | _=>false) | _=>λ_=>false⟩
def mkD(y:Addr):Ul:=⟨λ_=>y,λ_=>true⟩
def re{c:Uk}{k i:RK}(h:(mk1 c k).ok i=true):i=k:=by cases k <;> cases i <;> first | rfl | cases h
def At8(K:Frag)(m:Str)(v:Option Value)(f h c b e g a d:Addr):Prop:=findIn K (.ref f) m=some v/\findIn K (.ref h) m=some v/\findIn K (.ref c) m=some v/\findIn K (.ref b) m=some v/\findIn K (.ref e) m=some v/\findIn K (.ref g) m=some v/\findIn K (.ref a) m=some v/\findIn K (.ref d) m=some v
def C8(K:Frag)(f h c b e g a d:Addr):Prop:=Cls K f/\Cls K h/\Cls K c/\Cls K b/\Cls K e/\Cls K g/\Cls K a/\Cls K d
section
variable{Z:Z5}{K:Frag}{x1 x2 x3 x4 x5 x6 x7 x8 f:Addr}{m:Str}{v:Option Value}
def at8(h:At8 K m v x1 x2 x3 x4 x5 x6 x7 x8)(k:RK):findIn K (.ref ((mkC x1 x2 x3 x4 x5 x6 x7 x8).A k)) m=some v:=by
 obtain⟨a,b,c,d,e,f,g,i⟩:=h;cases k <;> assumption
def c8(h:C8 K x1 x2 x3 x4 x5 x6 x7 x8)(k:RK):Cls K ((mkC x1 x2 x3 x4 x5 x6 x7 x8).A k):=by
 obtain⟨a,b,c,d,e,f,g,i⟩:=h;cases k <;> assumption
def fk8(C:C8 K x1 x2 x3 x4 x5 x6 x7 x8)(h:At8 K m none x1 x2 x3 x4 x5 x6 x7 x8):FldK K (mkC x1 x2 x3 x4 x5 x6 x7 x8) m:=⟨λk _=>⟨c8 C k,at8 h k⟩⟩
def fk1{c:Uk}{k:RK}(b:c.ok k=true)(F:FldK K c m):FldK K (mk1 c k) m:=⟨λi a=>by cases re a;exact F.ex k b⟩
variable{N ps:List Str}{k k':Nat}{sp sp':Sp}{t:TS}{x qual:Str}{st:Stmt}
abbrev Hb(Z:Z5)(N:List Str)(qual:Str)(st:Stmt)(f:Addr)(k:Nat)(t:TS):Prop:=∀{b:Value} {A:Around} {a:List Env} {s:Shared} {H:Hp} {E:XK},Room k (A.deeper (envOfC qual (aZ st) s.heap.objs.size f b))->(A.deeper (envOfC qual (aZ st) s.heap.objs.size f b)).units+64<cLine->N.Nodup->PSs (cxOf CX0 Z.P Z.w Z.K Z.mg Z.base N qual (aZ st) f b A a s H E).nox (cN st) t
abbrev Rk(N:List Str)(sp:Sp)(t:TS):Prop:=∀{vs H Q E},sp vs H Q E->t (eD9 Q) (start N vs) H
abbrev Ln(ps:List Str)(sp:Sp):Prop:=∀{vs H Q E},sp vs H Q E->vs.length=ps.length
abbrev Bd(x qual:Str)(st:Stmt)(ps:List Str):Prop:=∀(e a d:Value) (g:Option Addr) (c f:Value) (b:List Value),b.length=ps.length->bindArgs (fnOf x qual (dW st) (cN st) (aZ st) .none e a d g c f) ⟨b,[]⟩=pure (ps.zip b)
def okf{f:Addr}{b:FuncData}(F:Fun Z.K x qual st f b)(S:ki N ps (aZ st))(d:Rk N sp t)(e:Hb Z N qual st f k t)(len:Ln ps sp):FnOk Z.P Z.w Z.K Z.mg Z.base CX0 (k+1) f b ps sp:=F.ok S (λ_ _ _ _ h=>len h) λg A a s H vs Q E c h=>⟨t,e c c.units S.nd,d h⟩
local macro_rules | `(tactic| walk_at "l")=>`(tactic| (intro vs H Q E h; (repeat obtain ⟨_,h⟩:=h); subst_vars; rfl))
theorem xE{α:Type}{us:List α}{n:Nat}(e:us.length=n+1):∃ u t,t.length=n/\us=u::t:=by
 cases us with
 | nil=>cases e
 | cons u t=>exact⟨u,t,Nat.succ.inj e,rfl⟩
def bd1{a0:Str}(h:∀ g a d i c ct b,bindArgs (fnOf x qual (dW st) (cN st) (aZ st) .none g a d i c ct) ⟨[b],[]⟩=pure ([a0].zip [b]):=by intros;rfl):Bd x qual st [a0]:=by
 intro _ _ _ _ _ _ _ e;(iterate 1 (obtain⟨_,_,f,rfl⟩:=xE e;clear e;have e:=f;clear f));cases Q0 e;exact h ..
def bd2{a0 d:Str}(h:∀ j a i k g ct b c,bindArgs (fnOf x qual (dW st) (cN st) (aZ st) .none j a i k g ct) ⟨[b,c],[]⟩=pure ([a0,d].zip [b,c]):=by intros;rfl):Bd x qual st [a0,d]:=by
 intro _ _ _ _ _ _ _ e;(iterate 2 (obtain⟨_,_,f,rfl⟩:=xE e;clear e;have e:=f;clear f));cases Q0 e;exact h ..
def bd3{a0 g c:Str}(h:∀ l a k m j ct b d i,bindArgs (fnOf x qual (dW st) (cN st) (aZ st) .none l a k m j ct) ⟨[b,d,i],[]⟩=pure ([a0,g,c].zip [b,d,i]):=by intros;rfl):Bd x qual st [a0,g,c]:=by
 intro _ _ _ _ _ _ _ e;(iterate 3 (obtain⟨_,_,f,rfl⟩:=xE e;clear e;have e:=f;clear f));cases Q0 e;exact h ..
def bd4{a0 j d i:Str}(h:∀ n a m o l ct c g k b,bindArgs (fnOf x qual (dW st) (cN st) (aZ st) .none n a m o l ct) ⟨[c,g,k,b],[]⟩=pure ([a0,j,d,i].zip [c,g,k,b]):=by intros;rfl):Bd x qual st [a0,j,d,i]:=by
 intro _ _ _ _ _ _ _ e;(iterate 4 (obtain⟨_,_,f,rfl⟩:=xE e;clear e;have e:=f;clear f));cases Q0 e;exact h ..
def bd5{a0 j d i l:Str}(h:∀ p a o q n ct c g k b m,bindArgs (fnOf x qual (dW st) (cN st) (aZ st) .none p a o q n ct) ⟨[c,g,k,b,m],[]⟩=pure ([a0,j,d,i,l].zip [c,g,k,b,m]):=by intros;rfl):Bd x qual st [a0,j,d,i,l]:=by
 intro _ _ _ _ _ _ _ e;(iterate 5 (obtain⟨_,_,f,rfl⟩:=xE e;clear e;have e:=f;clear f));cases Q0 e;exact h ..
def bd6{a0 k d j m n:Str}(h:∀ r a q s p ct c i l b o g,bindArgs (fnOf x qual (dW st) (cN st) (aZ st) .none r a q s p ct) ⟨[c,i,l,b,o,g],[]⟩=pure ([a0,k,d,j,m,n].zip [c,i,l,b,o,g]):=by intros;rfl):Bd x qual st [a0,k,d,j,m,n]:=by
 intro _ _ _ _ _ _ _ e;(iterate 6 (obtain⟨_,_,f,rfl⟩:=xE e;clear e;have e:=f;clear f));cases Q0 e;exact h ..
def bd8{a0 q n o d m j l:Str}(h:∀ t a w v u ct p k r b s c i g,bindArgs (fnOf x qual (dW st) (cN st) (aZ st) .none t a w v u ct) ⟨[p,k,r,b,s,c,i,g],[]⟩=pure ([a0,q,n,o,d,m,j,l].zip [p,k,r,b,s,c,i,g]):=by intros;rfl):Bd x qual st [a0,q,n,o,d,m,j,l]:=by
 intro _ _ _ _ _ _ _ e;(iterate 8 (obtain⟨_,_,f,rfl⟩:=xE e;clear e;have e:=f;clear f));cases Q0 e;exact h ..
local macro_rules | `(tactic| ac_rfl)=>`(tactic| exact ⟨rfl,rfl,rfl,by decide+kernel,rfl,by decide+kernel,by decide+kernel⟩)
def okc(B:Bt3 Z)(D:De Z.K x st)(d:Rk N sp t)(b:Bd x x st ps)(e:∀{f},Hb Z N x st f k t)(S:ki N ps (aZ st):=by ac_rfl)(len:Ln ps sp:=by walk_at "l"):Cal Z.P Z.w Z.K Z.mg Z.base (k+1) x ps sp:=
 let ⟨f,c,a,F⟩:=D.ex
 ⟨f,c,okf F S d e len,B.ns a,F.kp,F.binds b⟩
structure Mo(Z:Z5)(k:Nat)(f:Addr)(ps:List Str)(sp:Sp):Prop where
 ex:∃ fd:FuncData,FnOk Z.P Z.w Z.K Z.mg Z.base CX0 k f fd ps sp/\Binds Z.K fd ps []/\isFn Z.K (.ref f)=true/\keepIn Z.K (.ref f)=true
def okm(D:Me Z.K x qual st f)(c:Rk N sp t)(b:Bd x qual st ps)(d:Hb Z N qual st f k t)(S:ki N ps (aZ st):=by ac_rfl)(len:Ln ps sp:=by walk_at "l"):Mo Z (k+1) f ps sp:=
 let ⟨a,F,n⟩:=D.ex
 ⟨a,okf F S c d len,F.binds b,n,F.kp⟩
def Mo.at{C:Addr}(T:Mo Z k f ps sp)(cl:Cls Z.K C)(a:findIn Z.K (.ref C) m=some ↑f)(d:∀ vs H Q E,sp' vs H Q E->sp vs H Q E)(e:k<=k':=by decide):∃(f:Addr) (c:FuncData),Cls Z.K C/\Meth Z.K C m f/\FnOk Z.P Z.w Z.K Z.mg Z.base CX0 k' f c ps sp'/\Binds Z.K c ps []:=
 let ⟨c,F,b,n,g⟩:=T.ex
 ⟨f,c,cl,⟨a,n,g⟩,(F.mono e).imp d,b⟩
def Mo.mke{C:Addr}(T:Mo Z k f ps sp)(B:Bt3 Z)(c:ClsP Z.K x C f):KCal Z.P Z.w Z.K Z.mg Z.base k x C ps sp:=
 let ⟨a,F,b,n,_⟩:=T.ex
 ⟨f,a,⟨c.m1,c.m2,n,c.m4⟩,F,B.ns c.q,b⟩
def De.of{K:Frag}{f:Addr}{b:FuncData}(a:nsIn K mainGlobals x=some ↑f)(F:Fun K x x st f b):De K x st:=⟨f,b,a,F⟩
def Me.of{K:Frag}{f:Addr}{a:FuncData}(F:Fun K x qual st f a)(n:isFn K (.ref f)=true):Me K x qual st f:=⟨a,F,n⟩
structure GT0(K:Frag)(x:Str)(ws:List Str):Prop where
 ex:∃(p:Addr) (o:Obj) (PU:Array Value) (n:Nat),nsIn K mainGlobals x=some ↑p/\K.lookup p=some o/\o.cls=.type "tuple"/\o.data=.seq PU n/\PU.size<=sizeLine/\Vals (ws.map V.str) PU.toList
def GT0.mk'{K:Frag}{f:List Str}{p:Addr}{o:Obj}{PU:Array Value}{n:Nat}(a:nsIn K mainGlobals x=some ↑p)(b:K.lookup p=some o)(c:o.cls=.type "tuple")(d:o.data=.seq PU n)(e:PU.size<=sizeLine)(v:Vals (f.map V.str) PU.toList):GT0 K x f:=⟨p,o,PU,n,a,b,c,d,e,v⟩
def GT0.of{b:List Str}(g:GT0 Z.K x b)(B:Bt3 Z):GTup Z.K Z.mg x b:=let ⟨p,o,i,n,a,r⟩:=g.ex;⟨p,o,i,n,B.ns a,r⟩
structure GD0(w:World)(K:Frag)(x:Str)(D:List (Str × List Str)):Prop where
 ex:∃(p:Addr) (o:Obj) (es:Array DictEntry) (ep:Nat),nsIn K mainGlobals x=some ↑p/\K.lookup p=some o/\o.ExactDict/\o.data=.dict es ep/\DRows w K es.toList D/\(D.map λx=>x.1).Nodup
def GD0.of{D:List (Str × List Str)}(g:GD0 Z.w Z.K x D)(B:Bt3 Z):GDict Z.w Z.K Z.mg x D:=let ⟨p,o,i,n,a,r⟩:=g.ex;⟨p,o,i,n,B.ns a,r⟩
end
section
variable{X:Cx}{a b e:Expr}{ta tb te:TE}{pos pos' p:Pos}{x:Str}{es:List Expr}{t:TA}{ps:List Str}{sp:Sp}{k n:Nat}
def kcal(C:Cal X.prog X.w X.K X.mg X.base k x ps sp)(h:Room n X.A)(g:PA X (e::es) t)(f:k<=n:=by decide)(c:Gl X x:=by exact rfl)(b:(x==("__debug__":Str))=false:=by decide)(d:starEach (e::es) X.env=(false,eval e X.env)::starEach es X.env:=by rfl)(a:(backTo pos (starEach es X.env)).any (·.1)=false:=by rfl):PE X (.Call (.Name x p) (e::es) [] pos) (tCall sp [] E0 t):=Ha C h f c g b d a
def kix(f:X.A.units+64<cLine)(d:PE X a ta)(e:PE X b tb)(c:z5 b:=by exact λ_ _=>rfl):PE X (.Subscript a b pos) (tOp cIx ta tb):=yj (IK f) d e c
def kset(i:Nat)(d:X.N.Nodup)(f:PE X e te)(a:X.N[i]? =some x:=by exact rfl)(g:Loc X.env.scope x:=by exact Or.inl rfl)(b:swapsWith e (some (.Name x pos')) pos.line X.env=pure false:=by rfl)(c:X.fn x=true\/X.env.scope.names.lookup x=some .local:=by first | exact .inl rfl | exact .inr rfl | assumption):PS X (.Assign [.Name x pos'] e pos) (tAsg te (gName i)):=gS d a g f b c
end
section
variable{Z:Z5}{N ps:List Str}{k:Nat}{sp:Sp}{t:TS}{b x:Str}{st:Stmt}
local macro_rules | `(tactic| walk_at "l")=>`(tactic| (intro vs H Q E h; (repeat obtain ⟨_,h⟩:=h); subst_vars; rfl))
local macro_rules | `(tactic| ac_rfl)=>`(tactic| exact ⟨rfl,rfl,rfl,by decide+kernel,rfl,by decide+kernel,by decide+kernel⟩)
end
section
variable{K:Frag}{c:Uk}{d:Ul}{h w g:Int}{PP:List RR}{cl:∅}{ks:List TK}
open Classical in
end
def lz(K:Frag):Sp:=#[3,∃ n:Int,vs=[.int n]/\∀(p:Addr) (h w g:Int) (a:Hp),Same H a->H p=none->IsFl a p h w g->FlOk h w g->h*w<=9->g<=4->Q (.ref p) a]
def lA(K:Frag):TS:=#[":glbvdf#1 bA0df#3 h#1 glbvdf#1 bAbL0df#3 n~:adf#5 abLdf#9 1eh#2 jOa1a2abvdf#1 bAbL0df#15 df#4 e"]
def Kk:∀ a∈([1,2,3]:∅),∀ b∈([1,2,3,4,5]:∅),b<=(if (9/a)<5 then 9/a else 5)->a*b<=9:=by decide
variable{K:Frag}{vs:List V}{H:Hp}{Q:VK}{E:XK}
def y7(h:lz K vs H Q E):lA K (eD9 Q) (start ["_law_cell","_law_high","_law_wide"] vs) H:=by
 obtain⟨n,rfl,q⟩:=h;exists lA;have o:=QK n (show(3:Int)≠0 by decide);have i:=QA n (show(0:Int)<3 by decide);refine⟨by decide,?_⟩;generalize k:1+n%3=h at*;have h3:h=1\/h=2\/h=3:=by omega
 exists⟨⟨by omega,by omega⟩,⟨by omega,by omega⟩,?_⟩;have r:3<=(if 9/h<5 then 9/h else(5:Int))/\(if 9/h<5 then 9/h else(5:Int))<=5:=by rcases h3 with rfl | rfl | rfl <;> decide
 have c:=Kk h (by rcases h3 with rfl | rfl | rfl <;> decide);symm;generalize (if 9/h<5 then 9/h else(5:Int))=m at*;have f:=QK (n/3) (show m≠0 by omega);have l:=QA (n/3) (show 0<m by omega);refine⟨by omega,?_⟩;generalize e:1+n/3%m=w at*
 have a:h*w<=9:=c w (by
  have:w=1\/w=2\/w=3\/w=4\/w=5:=by omega
  rcases this with rfl | rfl | rfl | rfl | rfl <;> decide) #[0]
 have s:=QK (n/15) (show(4:Int)≠0 by decide);have j:=QA (n/15) (show(0:Int)<4 by decide);exists⟨⟨by decide,by decide⟩,by decide,?_⟩;generalize d:1+n/15%4=g at*;refine⟨lnR rfl,λp b=>?_⟩;exact q p h w g _ ((P2 H).laid b) b ai ⟨by omega,by omega,by omega,by omega,by omega,by omega,by omega⟩ a #[0]
def iC(K:Frag):Sp:=#[3,∃ e a b,vs=[.int e,.int a,.int b]/\a<=16/\0<=b/\b<=a/\
 ∀(l:Addr) (cs:List Nat) (d:Hp),Same H d->H l=none->d l=↥((iN cs).map V.int)->cs.Nodup->(∀ c∈cs,(c:Int)<a)->(cs.length:Int)=b->Q (.ref l) d]
def lB(K:Frag):TS:=#[":gl'ca1eh#3 glueh#4 gT*a2eh#5 gZRcQ:4aRcQ}s3abA0nxa3eeelbAbU0df#48271 df#2147483647 h#0 j4"]
def y8(h:iC K vs H Q E):lB K (eD9 Q) (start ["_law_number","_law_many","_law_size","_law_left","_law_found","_law_k"] vs) H:=by
 obtain⟨b,a,k,rfl,W,P,X,q⟩:=h;exists lB;refine⟨a,rfl,by omega,by omega,λL B=>?_⟩;obtain⟨U,O,w,A⟩:=aU (.lst ((rngL 0 a).map V.int)) B;rw[O];exists⟨aQ #[1],λR n=>?_⟩;have l:R≠L:=λe=>by rw[e,A]at n;cases n
 refine⟨k,rfl,by omega,by omega,?_⟩
 refine mQ (λi σ t=>∃(b:Int) (z:Option V) (d f:∅),σ=[⇑b,⇑a,⇑k,↑L,↑R,z]/\Same H t/\t L=↥(f.map V.int)/\t R=↥(d.map V.int)/\(d++f).Perm (rngL 0 a)/\d.length=i)
  ⟨b,none,[],rngL 0 a,rfl,w.laid n,by rw[ap l.symm];exact A,by rw[ai];rfl,List.Perm.refl _,rfl⟩ ?_ ?_
 . rintro i σ u S ⟨b,z,d,f,rfl,v,e1,e2,o,r⟩;have M:=o.length_eq;rw[Qn,l0]at M;exists⟨cC e2,cC e1,?_⟩;rw[aO e1,P0];have g:0 < (f.length:Int):=by omega
   have N:=QK b (Int.ne_of_gt g);have T:=QA b g;exists⟨g,?_⟩;generalize b % (f.length:Int)=j at*;have C:j.toNat<f.length:=by omega
   refine J0 e1 N (by rw[P0];omega) (y:=V.int f[j.toNat]) (by rw[P5,P1 C];rfl) ?_;have p:(upd u L (.lst ((f.map V.int).eraseIdx j.toNat))) R=↥(d.map V.int):=by rw[ap l];exact e2
   symm;rw[lZ p];refine⟨by rw[P0];exact aL #[0],?_⟩;exists⟨.inr ⟨by decide,by decide⟩,by decide,_,_,d++[f[j.toNat]],f.eraseIdx j.toNat,rfl,(v.own B).own (w.free n),?_,?_,?_,by simp[r]⟩
   . rw[ap l.symm,ai,AZ]
   . rw[ai];simp
   . have G:=yI f j.toNat C;have I:=List.Perm.append_left d G;refine List.Perm.trans ?_ o;rw[Tp];exact I
 . rintro σ u ⟨b,z,d,f,rfl,v,e1,e2,o,r⟩;symm;have s:(d++f).Nodup:=o.nodup_iff.mpr (Hz a);have D:∀ x∈d,0<=x/\x<a:=λx m=>Fa (o.mem_iff.mp (QD.mpr (.inl m)))
   have F:iN (d.map Int.toNat)=d:=by
    unfold iN;rw[QO]
    conv=>rhs;rw[← List.map_id d]
    exact S2 λx m=>by have:=D x m;show((x.toNat:Nat):Int)=x;omega
   refine q R (d.map Int.toNat) u v (w.free n) (by rw[F];exact e2) ?_ ?_ ?_
   . have h1:=(RS.mp s).1;rw[← F]at h1;exact uy _ h1
   . intro c J;obtain⟨x,m,rfl⟩:=Qe.mp J;have:=D x m;omega
   . rw[P0,r];omega
def iD(K:Frag):Sp:=#[3,∃ f C c cs,vs=[.ref f,.ref C]/\LE H f C c cs/\∀(l:Addr) (a:List Nat) (b:Hp),Same H b->H l=none->b l=↥((iN a).map V.int)->a.Sublist cs->(cs≠[]->a≠[])->Chn true c a->Q (.ref l) b]
def Jk(K:Frag):TS:=#[":oBmbsc2uemb>bi03bi0bi2~*`0df#1 ZRcQ:2a3ep",(rU λi=>.int (-i))]
def lC(K:Frag):TS:=#[":glueh#2 gTyc1h#3 }tcj2"]
def Kl {D:Ends} {f R:Addr} {b:∅} {a:List Nat} {n:Nat} {v1:Option V} (o:H f=↥(b.map V.int)) (i:H R=↥((iN a).map V.int)) (C:a.length<=16) (t:∀ x∈a,x<b.length) (A:n<b.length) (j:Chn true b a)
  (k1:Chn true b (a++[n])->∀ d,Same H d->D.nx [↑f,v1,↑R,⇑(n:Int)] (upd d R (.lst ((iN (a++[n])).map V.int))))
  (k2:a≠[]->∀ d,Same H d->D.nx [↑f,v1,↑R,⇑(n:Int)] d):
  Jk K D [↑f,v1,↑R,⇑(n:Int)] H:=by
 have g:∀ d,Same H d->Chn true b (a++[n])->tyV K "list" (V.ref R) d/\cj (V.ref R) [V.int (n:Int)] d λx h=>D.nx [↑f,v1,↑R,⇑(n:Int)] h:=λd s c=>⟨cC (s _ _ i),by
  rw[lZ (s _ _ i)];exact⟨by rw[P0];unfold iN;rw[P0];exact aL #[0],by have:=k1 c d s;unfold iN at this ⊢;rw[Re,Re]at this;exact this⟩⟩
 unfold Jk;rw[az];exists⟨aQ #[1],λe v=>?_⟩;obtain⟨h,z9,s1,ee⟩:∃ z,upd H e (.lst [])=z/\Same H z/\z e=↥(([]:∅).map V.int):=aU _ v;rw[z9];refine pr (s1 _ _ i) ee ?_;symm;by_cases h0:a=[]
 . refine cp (P4 (by rw[h0];rfl)) ?_;exists g h s1 ?_;rw[h0];unfold Chn;simp[sgAt,risB,iN]
 . refine cq (P3 (by unfold iN;simp[h0])) ?_;have B:0<a.length:=List.length_pos_iff.mpr h0;have u:(iN a).length=a.length:=by unfold iN;rw[P0]
   have r:(sgAt b (iN a)).length=a.length:=by unfold sgAt iN;simp
   have p:atI ((iN a).map V.int) (-1)=some (V.int ((iN a).getD ((iN a).length-1) 0)):=yX #[0];have m:=Db (ce (ms:=iN a) (k:=(iN a).length-1) #[0]);have w:=t _ m.2
   have q:b.getD ((iN a).getD ((iN a).length-1) 0).toNat 0=(sgAt b (iN a)).getD ((sgAt b (iN a)).length-1) 0:=by
    rw[r,← u];exact(HY #[0]).symm
   exists ixI (s1 _ _ o) #[0] #[0] ?_;refine ixL (s1 _ _ i) p ?_;refine ixI (s1 _ _ o) m.1 #[0] ?_;symm;rw[q,QV];by_cases h1:(sgAt b (iN a)).getD ((sgAt b (iN a)).length-1) 0<b.getD n 0
   . refine cp (P4 h1) ?_;exists g h s1 ?_;unfold Chn at j ⊢;rw[Qt rfl]at j ⊢;rw[HX];refine Dc j λy l=>?_;rw[List.getLast?_eq_getElem?]at l;rw[List.getD,l]at h1;exact h1
   . refine cq (P3 h1) ?_;exists k2 h0 h s1
def y9(h:iD K vs H Q E):lC K (eD9 Q) (start ["_law_filling","_law_cells","_law_found","_law_cell"] vs) H:=by
 obtain⟨f,C,m,cs,rfl,X,q⟩:=h;exists lC;refine⟨aQ #[1],λR r=>?_⟩;obtain⟨H1,z9,s1,eR⟩:∃ z,upd H R (.lst [])=z/\Same H z/\z R=↥((iN []).map V.int):=aU _ r;rw[z9];refine⟨⟨_,Qh (s1 _ _ X.C)⟩,?_⟩;have B:Chn true m []:=by unfold Chn;simp[sgAt,risB,iN]
 refine dF (K:=K) (xs:=(iN cs).map V.int) (λi σ u=>∃(l:Option V) (b:List Nat),σ=[↑f,↑C,↑R,l]/\Same H u/\u R=↥((iN b).map V.int)/\b.Sublist (cs.take i)/\(0<i->b≠[])/\Chn true m b) ⟨none,[],rfl,s1,eR,List.nil_sublist _,λh=>absurd h (Rv _),B⟩ (λi σ u _ ⟨_,_,_,s,_⟩=>Qh (s _ _ X.C)) ?_ ?_
 . rintro i v σ y D ⟨l,b,rfl,d,e2,a,g,j⟩;obtain⟨c,o,rfl⟩:=bj D
   have p:∃ n,cs[i]? =some n/\c=(n:Int):=by
    unfold iN at o;rw[P5]at o;obtain⟨n,e,rfl⟩:=RG.mp o;exact⟨n,e,rfl⟩
   obtain⟨n,e,rfl⟩:=p;have A:b.length<=16:=Qa a.length_le (by rw[Rt];have:=X.len;omega);have t:∀ x∈b,x<m.length:=λx F=>X.lt x (Se (a.subset F));have w:cs.take (i+1)=cs.take i++[n]:=by rw[Sf,e];rfl
   rw[aP];refine Kl (d _ _ X.f) e2 A t (X.lt n (Qi e)) j (λc I k=>?_) (λh0 I k=>?_)
   . exact⟨_,b++[n],rfl,(d.trans k).own r,ai,by rw[w];exact a.append (List.Sublist.refl _),λ_=>by simp,c⟩
   . exact⟨_,b,rfl,d.trans k,k _ _ e2,a.trans (by rw[w];exact Ty _ _),λ_=>h0,j⟩
 . rintro σ y ⟨l,b,rfl,d,e2,a,g,j⟩;rw[P0]at g;rw[P0]at a;have G:(iN cs).length=cs.length:=by unfold iN;rw[P0]
   rw[G]at g a;rw[R1]at a;exists q R b y d r e2 a (λh=>g (by cases cs with | nil=>exact absurd rfl h | cons _ _=>simp)) j
def Jl:((List.range 64).all λm=>(List.range 6).all λo=>decide (decide (Builtin.bitAnd ((m:Int)/2^o) 1=1)=stB (m:Int) (1+(o:Int))))=true:=by decide+kernel
def Jm{m o:Int}(d:0<=m)(a:m<64)(c:1<=o)(b:o<=6):decide (Builtin.bitAnd (m/2^(o-1).toNat) 1=1)=stB m o:=by
 have t:=Qw (Qj.mp (Qj.mp Jl m.toNat (Qf.mpr #[0])) (o-1).toNat (Qf.mpr #[0]));have e1:((m.toNat:Nat):Int)=m:=by omega
 have e2:1+(((o-1).toNat:Nat):Int)=o:=by omega
 rw[e1,e2]at t;exact t
def lD(K:Frag):Sp:=#[3,∃ m:Int,vs=[.int m]/\0<=m/\m<64/\∀(l:Addr) (a:∅) (b:Hp),Same H b->H l=none->b l=↥(a.map V.int)->a.length<=4->(∀ s∈a,1<=s/\s<=4/\stB m s=true)->Q (.ref l) b]
def lE(K:Frag):TS:=#[":jz&--0 'gadf#1 adf#5 eh#1 mbscb'mb~R2bI1df#1 df#1 df#1 1"]
def za(h:lD K vs H Q E):lE K (eD9 Q) (start ["_law_mask"] vs) H:=by
 obtain⟨m,rfl,t,c,q⟩:=h;exists lE;refine⟨1,5,rfl,⟨by decide,by decide,by decide,by decide⟩,?_⟩;refine fV (λ(i:Nat)=>stB m (1+(i:Int))) (λ(i:Nat)=>1+(i:Int)) #[1] ?_ ?_ ?_
 . intro i b n a d k4;have e:i<4:=a;show tTest _ [none,⇑(1+(i:Int)),⇑m] b n;exists⟨by omega,?_⟩;rw[Jm t c #[0] #[0]];exact k4 _ (P2 _)
 . intro i b r a o d k4;show tVar 1 [none,⇑(1+(i:Int)),⇑m] b r;exists k4 _ (P2 _)
 . intro l k j g p;refine q l _ k g j p ?_ ?_
   . rw[P0];exact Qa (Qk _ _) #[1]
   . intro s f;obtain⟨i,a,rfl⟩:=Qe.mp f;have h1:=QB.mp a;have h2:i<4:=Qf.mp h1.1;exact⟨by omega,by omega,h1.2⟩
def Ga:C5 (λh w=>(List.range (h*w).toNat).all λ(c:Nat)=>decide (nearL h w c).Nodup)=true:=by decide+kernel
variable{h w g:Int}
def LH{c:Int}(F:FlOk h w g)(a:0<=c)(b:c<h*w):(nearL h w c).Nodup:=by
 have t:=Qj.mp (A3 Ga F) c.toNat (Qf.mpr #[0]);have e1:((c.toNat:Nat):Int)=c:=by omega
 rw[e1,P6]at t;exact t
def sW{c:Int}(F:FlOk h w g)(a:0<=c)(b:c<h*w):(nearL h w c).length<=16:=by
 have t:=y3 F a b;rw[t.1];exact Qa (xm ..) #[1]
def j9(K:Frag):Sp:=#[3,∃(p S:Addr) (h w g:Int) (a:∅),vs=[.ref p,.ref S]/\IsFl H p h w g/\FlOk h w g/\H S=↥(a.map V.int)/\a.length<=16/\(∀ x∈a,0<=x/\x<h*w)/\∀ b c,Same H c->Q (.bl b) c]
def ij(K:Frag):TS:=#[":jbscnxa2enxa1e"]
def lQ(K:Frag):TS:=#[":g'kmb<3nxa2eglbv2z&--21 yc,'nca0abi23eh#1 WmbNcC13mbNcP121h#2 lbv3df#1 h#3 }uc"]
def kb(K:Frag):TS:=#[":gl~k~l1~x~ddf#1 h#2 gldf#0 h#3 }vc"]
def xG(h:j9 K vs H Q E):kb K (eD9 Q) (start ["_law_floor_here","_law_some","_law_seen","_law_at"] vs) H:=by
 obtain⟨p,S,h,w,g,c,rfl,hp,F,G,sn,O,q⟩:=h;exists kb;refine yw G λL hL=>?_;rw[show(some (1:Int))=some (((1:Nat):Int)) from rfl,HL V.int];obtain⟨H1,z9,s1,eL⟩:=aU (.lst ((c.take 1).map V.int)) hL;rw[z9]
 have n1:(c.take 1).Nodup:=by
  cases c with
  | nil=>simp
  | cons x r=>simp
 symm;unfold lQ;rw[ax];generalize hW:ij K=W at*
 refine⟨λm σ s=>∃(L:Addr) (xs:∅) (i:Nat),σ=[↑p,↑S,↑L,⇑(i:Int)]/\Same H s/\s L=↥(xs.map V.int)/\xs.Nodup/\(∀ x∈xs,x∈c)/\i<=xs.length/\m=17-i,
  ⟨_,L,c.take 1,0,rfl,s1,eL,n1,λx f=>Se f,QI _,rfl⟩,?_⟩
 rintro m σ H2 ⟨U,xs,i,rfl,B,e2,Y,n,il,rfl⟩;have xl:xs.length<=c.length:=kG Y n;symm;rw[aO e2,P0];symm;by_cases T:(i:Int) < (xs.length:Int)
 . refine cp (P4 T) ?_;refine⟨λσ s=>∃(L:Addr) (xs:∅),σ=[↑p,↑S,↑L,⇑((i+1:Nat):Int)]/\Same H s/\s L=↥(xs.map V.int)/\xs.Nodup/\(∀ x∈xs,x∈c)/\i+1<=xs.length,λσ' s ⟨L',D,e,s',e',P,v,J⟩=>⟨17 - (i+1),by omega,L',D,i+1,e,s',e',P,v,J,rfl⟩,?_⟩;have R:xs.getD i 0∈c:=n _ (ce #[0]);have j:=O _ R;exists ixI e2 #[0] #[0] ?_;rw[QV];refine⟨p,h,w,g,_,rfl,B _ _ hp,F,λN H3 M hN X=>?_⟩;have u:=B.trans M;exists⟨⟨_,Qh X⟩,?_⟩;refine bc (λz=>decide (z∈c)&&!decide (z∈xs)) (λz=>z) (Qa (sW F j.1 j.2) #[1]) (Qh X) ?_ ?_ ?_
   . intro x d R4 f o k4;show tAnd _ _ [none,⇑x,↑U,↑S] d R4;symm;rw[ot ((u.trans o) _ _ G)];symm
     cases y:decide (x∈c) with
     | false=>
      rw[y,P9]at k4;exact k4 _ (P2 _)
     | true=>
      rw[y,Qc]at k4;refine iteT ?_;symm;rw[jJ ((M.trans o) _ _ e2)];exists k4 _ (P2 _)
   . intro x d Q4 f ab o k4;show tVar 1 [none,⇑x,↑U,↑S] d Q4;exists k4 _ (P2 _)
   . intro A d hA o C;have C:d A=↥(((nearL h w (xs.getD i 0)).filter λz=>decide (z∈c)&&!decide (z∈xs)).map V.int):=by rw[Rz]at C;exact C
     have I:((nearL h w (xs.getD i 0)).filter λz=>decide (z∈c)&&!decide (z∈xs)).Nodup:=(LH F j.1 j.2).filter _
     have l:∀ z∈(nearL h w (xs.getD i 0)).filter λz=>decide (z∈c)&&!decide (z∈xs),z∈c/\z∉xs:=λz hz=>by
      have:=(QB.mp hz).2;rw[Qy,P6,Tt,Sr]at this;exact this
     generalize (nearL h w (xs.getD i 0)).filter (λz=>decide (z∈c)&&!decide (z∈xs))=ys at*;have t:(xs++ys).Nodup:=RS.mpr ⟨Y,I,λa ha b y e=>(l b y).2 (e ▸ ha)⟩
     have k:∀ x∈xs++ys,x∈c:=λx f=>by
      rcases QD.mp f with f | f
      . exact n x f
      . exact(l x f).1
     have Z:=kG t k;rw[Qn]at Z;refine jC ((M.trans o) _ _ e2) C (by rw[P0,P0];omega) λr hr=>?_;have s5:Same d (upd d r (.lst (xs.map V.int++ys.map V.int))):=(P2 d).laid hr;have er:(upd d r (.lst (xs.map V.int++ys.map V.int))) r=↥((xs++ys).map V.int):=by rw[ai,Re]
     generalize upd d r (.lst (xs.map V.int++ys.map V.int))=H5 at*;exists⟨r,xs++ys,rfl,(u.trans o).trans s5,er,t,k,by rw[Qn];omega⟩
 . refine cq (P3 T) ?_;subst hW;unfold ij;symm;rw[aO e2,aO (B _ _ G)];exists q _ H2 B
def iR(K:Frag):Sp:=#[3,∃(p f:Addr) (h w g s:Int) (c:∅) (x:Str),vs=[.ref p,.ref f,.str x,.int s]/\IsFl H p h w g/\FlOk h w g/\H f=↥(c.map V.int)/\c.length=(h*w).toNat/\∀ b a,Same H a->Q (.bl b) a]
def Gb(K:Frag):TS:=#[":glua4abv4df#1 abv4bi0df#1 abvbv4bi0df#1 df#1 eh#6 oWmb>bAbv4df#1 bi0df#1 df#0 mbscz&--5 yc6h#1 mbNcP121uejdFCp"]
def dB(K:Frag):TS:=#[":jbscz&--05 yc5h#1 mbEcnxaz&--3 yc,'nca2a1eh#1 mbNcC121edf#2 1ue"]
def gy(K:Frag):TS:=#[":gombsc2dqr`0jdFPp}wc",[106,111,105,110,101,100]]
def cr(K:Frag):TS:=#[":goJw,}xca0a5ejdFCp}yc"]
def kr(K:Frag):TS:=#[":gombsc2dqr`0gTyc5h#4 }zcjdFPp}Ac",[110,111,115,113,117,97,114,101]]
def iS(K:Frag):TS:=#[":glz&--13 *anxa1eeh#1 mbscbi2131h#5 }Bc"]
section
variable{K:Frag}{H:Hp}{Q:VK}{p f S:Addr}{h w g s:Int}{fl ss:∅}{x:Str}
def Gc{J v u G:Option V}(E:IsFl H p h w g)(F:FlOk h w g)(m:H S=↥(ss.map V.int))(U:ss.length<=16)(k:∀ x∈ss,0<=x/\x<h*w)(q:∀ b s,Same H s->Q (.bl b) s):
  dB K (eD9 Q) [↑p,↑f,J,v,u,↑S,G] H:=by
 unfold dB;exists⟨⟨_,Qh m⟩,?_⟩;refine bc (λz=>!decide ((((nearL h w z).filter λy=>decide (y∈ss)).length:Int)=2)) (λz=>z) #[0] (Qh m) ?_ ?_ ?_
 . intro z a P t c k4;have n:=k z t;show tTest _ [none,⇑z,↑p,↑S] a P;exists⟨p,h,w,g,_,rfl,c _ _ E,F,λN o d T r=>?_⟩;exists⟨⟨_,Qh r⟩,?_⟩;refine bc (λy=>decide (y∈ss)) (λy=>y) (Qa (sW F n.1 n.2) #[1]) (Qh r) ?_ ?_ ?_
   . intro y j D B i k6;show tTest _ [none,⇑y,↑S] j D;symm;rw[ot ((c.trans (d.trans i)) _ _ m)];exists k6 _ (P2 _)
   . intro y j C B R i k6;show tVar 1 [none,⇑y,↑S] j C;exists k6 _ (P2 _)
   . intro A j M i l;rw[aO l,P0,P0];exists k4 _ (d.trans i)
 . intro z a I t O c k4;show tVar 1 [none,⇑z,↑p,↑S] a I;exists k4 _ (P2 _)
 . intro A a M c l;exists⟨aQ #[1],λe L=>?_⟩;obtain⟨o,z9,d,ee⟩:∃ z,upd a e (.lst [])=z/\Same a z/\z e=↥(([]:∅).map V.int):=aU _ L;rw[z9];refine pr (d _ _ l) ee ?_;exact q _ o (c.trans d)
theorem Gd{o n s:Option V}(i:IsFl H p h w g)(F:FlOk h w g)(l:H S=↥(ss.map V.int))(j:ss.length<=16)(a:∀ x∈ss,0<=x/\x<h*w)(q:∀ b d,Same H d->Q (.bl b) d):
  cr K (eD9 Q) [↑p,↑f,some (.str x),o,n,↑S,s] H:=by
 unfold cr;rw[ax,az];generalize e:gy K=W at*;exists⟨p,S,h,w,g,ss,rfl,i,F,l,j,a,λb k c=>?_⟩
 cases b with
 | false=>
  refine⟨false,rfl,iteT ?_⟩;exists q _ k c
 | true=>
  refine⟨true,rfl,iteF ?_⟩;symm;subst e;unfold gy;rw[ax,az];generalize e:dB K=W at*;symm;by_cases m:x=tx [106,111,105,110,101,100]
  . refine cp (P4 m) ?_;exists q _ k c
  . refine cq (P3 m) ?_;symm;subst e;exact Gc (c _ _ i) F (c _ _ l) j a λb d r=>q b d (c.trans r)
theorem Km {D:Ends} {z:Int} {v1 l k j:Option V} (i:IsFl H p h w g) (F:FlOk h w g) (t:H S=↥(ss.map V.int))
  (k1:∀ c,Same H c->D.rt (.bl false) c) (k2:∀ j c,Same H c->D.nx [↑p,v1,l,k,⇑z,↑S,j] c):
  Gb K D [↑p,v1,l,k,⇑z,↑S,j] H:=by
 have B:=F.w0;unfold Gb;exists ixT i (v:=V.int w) rfl ?_;exists ixT i (v:=V.int w) rfl ?_;exists⟨lnR rfl,λM n=>?_⟩;obtain⟨H1,z9,s1,eM⟩:∃ f,upd H M (.lst [V.int z,V.int (z+1),V.int (z+w),V.int (z+w+1)])=f/\Same H f/\f M=↥(([z,z+1,z+w,z+w+1]:∅).map V.int):=aU _ n;rw[z9];rw[az];exists ixT (s1 _ _ i) (v:=V.int w) rfl ?_;exists⟨by omega,?_⟩
 cases x:decide (0 < (z+1)%w) with
 | false=>
  refine iteF ?_;exact k2 _ H1 s1
 | true=>
  refine iteT ?_;exists⟨⟨_,Qh eM⟩,?_⟩;refine bc (λy=>!decide (y∈ss)) (λy=>y) (by show(4:Nat)<=900;decide) (Qh eM) ?_ ?_ ?_
  . intro y a q m d k6;show tTest _ [none,⇑y,↑S] a q;symm;rw[jJ ((s1.trans d) _ _ t)];exists k6 _ (P2 _)
  . intro y a o m u d k6;show tVar 1 [none,⇑y,↑S] a o;exists k6 _ (P2 _)
  . intro A a C d r;exists⟨aQ #[1],λe s=>?_⟩;obtain⟨H7,z9,s7,ee⟩:∃ z,upd a e (.lst [])=z/\Same a z/\z e=↥(([]:∅).map V.int):=aU _ s;rw[z9];have b:=s1.trans (d.trans s7);refine pr (s7 _ _ r) ee ?_;symm
    split
    . exact k1 H7 b
    . exact k2 _ H7 b
def uP{vs:List V}{E:XK}(h:iR K vs H Q E):iS K (eD9 Q) (start ["_law_floor_here","_law_filling","_law_word","_law_sign","_law_cell","_law_some","_law_square"] vs) H:=by
 obtain⟨p,f,h,w,g,s,fl,x,rfl,B,F,C,P,q⟩:=h;have D:=F.m;exists iS;rw[aO C,P0];refine⟨_,rfl,by omega,by omega,?_⟩;refine fV (λ(i:Nat)=>decide (fl.getD i 0=s)) (λ(i:Nat)=>(i:Int)) #[0] ?_ ?_ ?_
 . intro i u O k A k4;have J:i<fl.length:=by have:i < ((fl.length:Nat):Int).toNat:=k;omega
   show tTest _ [none,⇑(0+(i:Int)),↑f,⇑s] u O;rw[Rs];exists ixI (A _ _ C) #[0] #[0] ?_;rw[QV];exists k4 _ (P2 _)
 . intro i u L k N A k4;show tVar 1 [none,⇑(0+(i:Int)),↑f,⇑s] u L;rw[Rs];exists k4 _ (P2 _)
 . intro S t R j o
   have y:∀ x∈((List.range ((fl.length:Nat):Int).toNat).filter λ(i:Nat)=>decide (fl.getD i 0=s)).map (λ(i:Nat)=>(i:Int)),0<=x/\x<h*w:=λx l=>by
    obtain⟨i,k,rfl⟩:=Qe.mp l;have:=Qf.mp (QB.mp k).1;omega
   have M:(((List.range ((fl.length:Nat):Int).toNat).filter λ(i:Nat)=>decide (fl.getD i 0=s)).map (λ(i:Nat)=>(i:Int))).length<=16:=by
    rw[P0];refine Qa (Qk _ _) ?_;rw[QU];omega
   generalize ((List.range ((fl.length:Nat):Int).toNat).filter λ(i:Nat)=>decide (fl.getD i 0=s)).map (λ(i:Nat)=>(i:Int))=ss at*;have fin:∀ e,Same t e->cr K (eD9 Q) [↑p,↑f,some (.str x),⇑s,none,↑S,none] e:=λe a=>Gd ((j.trans a) _ _ B) F (a _ _ o) M y λb d c=>q b d ((j.trans a).trans c);symm;unfold kr;rw[ax,az];generalize T:cr K=W at*;symm;by_cases l:x=tx [110,111,115,113,117,97,114,101]
   . refine cp (P4 l) ?_;generalize I:Gb K=V' at*;symm;subst I;refine⟨⟨_,Qh o⟩,?_⟩;refine dF (K:=K) (xs:=ss.map V.int) (λi σ d=>∃ r n:Option V,σ=[↑p,↑f,some (.str x),⇑s,r,↑S,n]/\Same t d) ⟨none,none,rfl,P2 _⟩ (λi σ d _ ⟨_,_,_,c⟩=>Qh (c _ _ o)) ?_ ?_
     . rintro i v σ e G ⟨r,n,rfl,a⟩;obtain⟨z,U,rfl⟩:=bj G;rw[aP];exact Km ((j.trans a) _ _ B) F (a _ _ o) (λd c=>q _ d ((j.trans a).trans c)) λn d c=>⟨_,_,rfl,a.trans c⟩
     . rintro σ e ⟨r,n,rfl,a⟩;exists q _ e (j.trans a)
   . refine cq (P3 l) ?_;exists fin t (P2 _)
end
structure Rl40(H:Hp)(p f:Addr)(h w g:Int)(fl:∅):Prop where
 p:IsFl H p h w g
 F:FlOk h w g
 m9:h*w<=9
 f:H f=↥(fl.map V.int)
 fll:fl.length=(h*w).toNat
 sg:∀ x∈fl,1<=x/\x<=g
structure IsRl(H:Hp)(T C:Addr)(r:RR):Prop where
 top:H T=some (.tup [.str (tx (nmC r.k)),.ref C,.int r.m,.str r.txt])
 C:H C=↥(r.cs.map V.int)
variable{H':Hp}{r:RR}
def IsRl.same{T C:Addr}(x:IsRl H T C r)(s:Same H H'):IsRl H' T C r:=⟨s _ _ x.top,s _ _ x.C⟩
def RlP(Q:VK)(H:Hp)(h w g:Int):Prop:=∀(T C:Addr) (r:RR) (H':Hp),Same H H'->IsRl H' T C r->r.Ok h w g->Q (.ref T) H'
def RlP.of{a:Hp}(q:RlP Q H h w g)(s:Same H a):RlP Q a h w g:=λT C r H' b x O=>q T C r H' (s.trans b) x O
def mf(K:Frag):Sp:=#[3,∃ p f n h w g a,vs=[.int n,.ref p,.ref f]/\Rl40 H p f h w g a/\RlP Q H h w g]
def Ge(K:Frag):TS:=#[":ombNcPbi27z&--2 yc|ah#1 Hbi21ZRcQ:|aa7ep"]
def fP(K:Frag):TS:=#[":glueh#10 gTyc,'NcabAbL0df#32 df#2147483647 a3a3eh#7 }CcjOadqr`0a|aadf#0 abvdqr`1Rc~y'odqr`2az&-- yc|ah#1 Hn~ia1eee",[117,110,108,105,107,101],[117,110,108,105,107,101,32],[32]]
def gd(K:Frag):TS:=#[":gombsc4dqr`0gl,'Oca2a6eh#6 jOa4a6adf#0 abvdqr`1Rc~y'odqr`2az&-- yc6h#1 Hn~ia1eeep}Dc",[114,105,115,105,110,103],[114,105,115,105,110,103,32],[32]]
def ge(K:Frag):TS:=#[":gombsc4dqr`0glnxaz&--25 yc6h#1 mbscbi2131eh#9 jOa4a6a5abvbvbvbvbvdqr`1n~ia9edqr`2n~ia5edqr`28ep}Ec",[99,111,117,110,116],[99,111,117,110,116,32],[32]]
def gf(K:Frag):TS:=#[":gombsc4dqr`0jOa4a6adf#0 abvbvbvdqr`1n~ianxa,'Oca2a6eeedqr`28ep}Fc",[115,101,101,110],[115,101,101,110,32],[32]]
def gg(K:Frag):TS:=#[":gombsc4dqr`0jOa4a6adf#0 abvbvbvdqr`1n~ian~Iaz&--2 yc6h#1 Hbi21eedqr`28ep}Gc",[115,117,109],[115,117,109,32],[32]]
def dL(K:Frag):TS:=#[":glRc~y'odqr`0az&-- yc6h#1 Hn~ia1eeh#8 }Hc",[32]]
def gh(K:Frag):TS:=#[":goWmb>bA0df#8 df#4 w,}Ica1a2a4a5ejOa4a'ca3ea5abvbv4dqr`0n~ia5eep}Jc",[32]]
def jp(K:Frag):TS:=#[":glbvdf#1 bAbL0df#8 bi1df#2 h#5 gl,'NcabAbL0df#32 df#2147483647 a3abvdf#1 bAbL0df#32 n~:a3adf#5 eeh#6 }Kc"]
def jq(K:Frag):TS:=#[":glbiuadqr`0adqr`1adqr`2adqr`3adqr`4adqr`5adqr`6adqr`7ebA0df#8 h#4 }Lc",[117,110,108,105,107,101],[115,117,109],[114,105,115,105,110,103],[115,101,101,110],[99,111,117,110,116],[106,111,105,110,101,100],[110,111,115,113,117,97,114,101],[114,105,110,103]]
def mh(K:Frag):TS:=#[":glnxa2eh#3 }Mc"]
section
variable{K:Frag}{H:Hp}{Q:VK}{p f C:Addr}{h w g:Int}{fl:∅}{cs:List Nat}
def Rl40.same{H':Hp}(X:Rl40 H p f h w g fl)(s:Same H H'):Rl40 H' p f h w g fl:=⟨s _ _ X.p,X.F,X.m9,s _ _ X.f,X.fll,X.sg⟩
def Rl40.ac(X:Rl40 H p f h w g fl)(Y:Cs58 h w cs)(d:H C=↥((iN cs).map V.int)):LE H f C fl cs:=⟨X.f,d,λc a=>by have:=Y.lt c a;have:=X.fll;omega,Y.len,λx b=>by have:=X.sg x b;have:=X.F.g1;omega⟩
def vY{r:RR}(q:RlP Q H h w g)(O:r.Ok h w g)(b:H C=↥(r.cs.map V.int)):([V.str (tx (nmC r.k)),V.ref C,V.int r.m,V.str r.txt]:List V).length<=sizeLine/\∀ t,H t=none->Q (.ref t) (upd H t (.tup [V.str (tx (nmC r.k)),V.ref C,V.int r.m,V.str r.txt])):=
 ⟨lnR rfl,λt a=>q t C r _ ((P2 H).laid a) ⟨ai,(P2 H).laid a _ _ b⟩ O⟩
def mj:∀ x y:List Nat,x.length+y.length<=1000->(tx x).length+(tx y).length<=sizeLine:=λx y h=>by rw[gu,gu];exact aQ h
def zb{k:RK}{n m:Nat}(F:FlOk h w g)(Y:Cs58 h w cs)(c:allK k=false)(k0:k≠.Rule)(d:n<=99)(a:numK k=false->n=0)(e:sgnK k=true->1<=(m:Int)/\(m:Int)<=g)(b:sgnK k=false->m=0):RR.Ok ⟨k,n,m,cs,iN cs⟩ h w g:=F8 F Y.ne Y.lt Y.nd Y.len c k0 d a e b
def Kn {D:Ends} {R:Addr} {a:List Nat} {n:Nat} {i v1 h g j k v8 l:Option V} (s:H f=↥(fl.map V.int)) (b:H R=↥((iN a).map V.int)) (A:a.length<=16) (v:∀ x∈a,x<fl.length) (z:n<fl.length)
  (k1:n∉a->∀ H',Same H H'->D.nx [i,v1,↑f,h,g,j,k,⇑(n:Int),v8,l,↑R] (upd H' R (.lst ((iN (a++[n])).map V.int))))
  (k2:a≠[]->∀ H',Same H H'->D.nx [i,v1,↑f,h,g,j,k,⇑(n:Int),v8,l,↑R] H'):
  Ge K D [i,v1,↑f,h,g,j,k,⇑(n:Int),v8,l,↑R] H:=by
 unfold Ge;rw[az];exists ixI s #[0] #[0] ?_;refine⟨⟨_,Qh b⟩,?_⟩;refine bc (λ_=>true) (λx=>fl.getD x.toNat 0) (by unfold iN;rw[P0];omega) (Qh b) ?_ ?_ ?_
 . intro x r B q p k4;exact k4 _ (P2 _)
 . intro x r u q w p k4;show tOp cIx _ _ [none,⇑x,↑f] r u;symm;have m:=Db q;have:=v _ m.2;exact ixI (p _ _ s) m.1 #[0] (k4 _ (P2 _))
 . intro S o y c d;have d:o S=↥((sgAt fl (iN a)).map V.int):=by rw[RF.mpr (λ_ _=>rfl)]at d;exact d
   rw[jJ d,QV];by_cases h1:fl.getD n 0∈sgAt fl (iN a)
   . rw[P4 h1];exists k2 (λe=>?_) o c;rw[e]at h1;cases h1
   . rw[P3 h1];exists⟨cC (c _ _ b),?_⟩;rw[lZ (c _ _ b)];refine⟨by rw[P0];unfold iN;rw[P0];exact aL #[0],?_⟩;have:=k1 (λt=>h1 (by unfold sgAt iN;exact Qe.mpr ⟨(n:Int),Qe.mpr ⟨n,t,rfl⟩,by rw[QV]⟩)) o c;unfold iN at this ⊢;rw[Re,Re]at this;exact this
def HZ{D:Addr}{a:List Nat}{t:List Nat}{R:VK}(Y:Cs58 h w a)(F:FlOk h w g)(m:t.length<=100)(b:H D=↥((iN a).map V.int))(k:∀ H',Same H H'->R (.str (tx (t++catL 32 (a.map numC)))) H'):
  tyV K "str" (V.str (tx [32])) H/\(∃ xs,SqL K H D xs)/\CompR (Itl K D) (gName 1) tTrue (tCB kStr (tCons (tVar 1) tNil)) (λl H'=>kH (V.str (tx [32])) [V.ref l] H' λx f=>cAdd (V.str (tx t)) x f R) [none,none] H:=by
 have o:=mK Y.len;have b:H D=↥((a.map λ(n:Nat)=>(n:Int)).map V.int):=b;refine⟨FN,⟨_,Qh b⟩,?_⟩;refine A0 b (by have:=Y.len;omega) (Y.lt100 F) λl c p d j=>?_
 refine E9 j (ur (by have:=Y.len;simp;omega) (λt i=>by
  obtain⟨z,e,rfl⟩:=Qe.mp i;obtain⟨x,_,rfl⟩:=Qe.mp e;rw[gu];exact Qa gY #[1]) (by rw[gu];decide)) ?_
 rw[Cv,vS];exact strL #[0] #[0] (k c d)
def BB{n:Int}{C G N o v8 O:Option V}(X:Rl40 H p f h w g fl)(q:RlP Q H h w g):
  fP K (eD9 Q) [⇑n,↑p,↑f,⇑(fl.length:Int),C,G,N,o,v8,O,none] H:=by
 have ac:=X.fll;have m9:=X.m9;have mp:1<=h*w:=by have:=X.F.h0;have:=X.F.w0;exact Tv #[0] #[0]
 unfold fP;generalize hU:Ge K=U at*;exists⟨aQ #[1],λR L=>?_⟩;obtain⟨H1,z9,s1,eR⟩:∃ z,upd H R (.lst [])=z/\Same H z/\z R=↥((iN []).map V.int):=aU _ L;rw[z9];refine⟨⟨by decide,by decide⟩,by decide,?_⟩;refine⟨_,_,_,rfl,by omega,by omega,by omega,λD cs H2 P I E nd s ln=>?_⟩;subst hU;have B:=s1.trans P;refine⟨D,rfl,⟨_,Qh E⟩,?_⟩;have il:(iN cs).length=cs.length:=by unfold iN;rw[P0]
 have ab:H1 R=↥((iN []).map V.int):=eR;refine dF (K:=K) (xs:=(iN cs).map V.int) (λi σ H'=>∃(o:Option V) (b:List Nat),σ=[⇑n,↑p,↑f,⇑(fl.length:Int),C,G,N,o,v8,O,↑R]/\Same H H'/\H' D=↥((iN cs).map V.int)/\H' R=↥((iN b).map V.int)/\b.Sublist (cs.take i)/\(0<i->b≠[])) ⟨_,[],rfl,B,E,P _ _ eR,List.nil_sublist _,λh=>absurd h (Rv _)⟩ (λi σ H' _ ⟨_,_,_,_,e,_⟩=>Qh e) ?_ ?_
 . rintro i v σ H3 W ⟨o,b,rfl,m,t,d,a,y⟩;obtain⟨c,l,rfl⟩:=bj W
   have u:∃ n,cs[i]? =some n/\c=(n:Int):=by
    unfold iN at l;rw[P5]at l;obtain⟨n,hn,rfl⟩:=RG.mp l;exact⟨n,hn,rfl⟩
   obtain⟨k,S,rfl⟩:=u;have T:b.length<=16:=Qa a.length_le (by rw[Rt];omega);have A:∀ x∈b,x<fl.length:=λx hx=>by have:=s x (Se (a.subset hx));omega
   have J:cs.take (i+1)=cs.take i++[k]:=by rw[Sf,S];rfl
   have Z:R≠D:=λe=>by rw[e]at eR;rw[eR]at I;cases I
   rw[aP];refine Kn (m _ _ X.f) d T A (by have:=s k (Qi S);omega) (λ_ M j=>?_) (λh0 M j=>?_)
   . exact⟨_,b++[k],rfl,(m.trans j).own L,by rw[ap Z.symm];exact j _ _ t,ai,by rw[J];exact a.append (List.Sublist.refl _),λ_=>by simp⟩
   . exact⟨_,b,rfl,m.trans j,j _ _ t,j _ _ d,a.trans (by rw[J];exact Ty _ _),λ_=>h0⟩
 . rintro σ H3 ⟨o,b,rfl,m,t,d,a,y⟩;rw[P0,il]at a y;rw[R1]at a;have Y:Cs58 h w b:=⟨y #[0],nd.sublist a,λc l=>by have:=s c (a.subset l);omega,by have:=a.length_le;omega⟩;exists HZ (K:=K) Y X.F #[1] d λM j=>?_
   have e:[117,110,108,105,107,101,32]++catL 32 (b.map numC)=catL 32 (rowW .Unlike 0 0 b):=by
    show _=catL 32 (nmC .Unlike::b.map numC);rw[fX (oY Y.ne),show nmC .Unlike=[117,110,108,105,107,101] from rfl];simp
   rw[e];exact vY (r:=⟨.Unlike,0,0,b,iN b⟩) (q.of (m.trans j)) (zb X.F Y rfl #[1] #[1] (λ_=>rfl) (λe=>by cases e) (λ_=>rfl)) (j _ _ d)
def oa(k j:RK)(a:k≠.Rule)(b:j≠.Rule):decide (tx (nmC k)=tx (nmC j))=decide (k=j):=by
 revert a b
 cases k <;> cases j <;> decide+kernel
def Df{k:RK}{n:Int}{j m v8 l:Option V}(s:k≠.Rule)(X:Rl40 H p f h w g fl)(Y:Cs58 h w cs)(v:H C=↥((iN cs).map V.int))(q:RlP Q H h w g):
  gd K (eD9 Q) [⇑n,↑p,↑f,⇑(fl.length:Int),some (.str (tx (nmC k))),j,↑C,m,v8,l,none] H:=by
 unfold gd;rw[ax,az];generalize u:fP K=W at*;symm;rw[show tx [114,105,115,105,110,103]=tx (nmC .Rising) from rfl,oa k .Rising s #[1]];by_cases e:k=.Rising
 . refine cp (P4 e) ?_;subst e;exists⟨f,C,fl,cs,rfl,X.ac Y v,λD a z o x i c t A=>?_⟩;have b:=Y.sub c (t Y.ne);exists HZ (K:=K) b X.F #[1] i λy d=>?_
   have e:[114,105,115,105,110,103,32]++catL 32 (a.map numC)=catL 32 (rowW .Rising 0 0 a):=by
    show _=catL 32 (nmC .Rising::a.map numC);rw[fX (oY b.ne),show nmC .Rising=[114,105,115,105,110,103] from rfl];simp
   rw[e];exact vY (r:=⟨.Rising,0,0,a,iN a⟩) (q.of (o.trans d)) (zb X.F b rfl #[1] #[1] (λ_=>rfl) (λe=>by cases e) (λ_=>rfl)) (d _ _ i)
 . refine cq (P3 e) ?_;symm;subst u;exact BB X q
def Dg{k:RK}{n m:Int}{A z:Option V}(u:k≠.Rule)(X:Rl40 H p f h w g fl)(Y:Cs58 h w cs)(a:H C=↥((iN cs).map V.int))(J:1<=m)(T:m<=g)(q:RlP Q H h w g):
  ge K (eD9 Q) [⇑n,↑p,↑f,⇑(fl.length:Int),some (.str (tx (nmC k))),⇑m,↑C,A,some (.str (tx (catL 32 (cs.map numC)))),z,none] H:=by
 have L:=X.F.g1;have cl:=Y.len;have M:=mK cl;unfold ge;rw[ax,az];generalize v:gd K=W at*;symm;rw[show tx [99,111,117,110,116]=tx (nmC .Count) from rfl,oa k .Count u #[1]];by_cases e:k=.Count
 . refine cp (P4 e) ?_;subst e;exists⟨⟨_,Qh a⟩,?_⟩;refine bc (λx=>decide (fl.getD x.toNat 0=m)) (λx=>x) (by unfold iN;rw[P0];omega) (Qh a) ?_ ?_ ?_
   . intro x j E o l k4;show tTest _ [none,⇑x,↑f,⇑m] j E;symm;have b:=Jj Y X.fll X.sg o;refine ixI (l _ _ X.f) b.1 b.2.1 ?_;exists k4 _ (P2 _)
   . intro x j y o D l k4;show tVar 1 [none,⇑x,↑f,⇑m] j y;exists k4 _ (P2 _)
   . intro S B G s d;have d:B S=↥((mkAt fl (iN cs) m).map V.int):=by rw[Rz]at d;exact d
     have P:(mkAt fl (iN cs) m).length<=cs.length:=by unfold mkAt;have:=Qk (λc=>decide (fl.getD c.toNat 0=m)) (iN cs);unfold iN at this ⊢;rw[P0]at this;exact this
     symm;rw[aO d,P0];generalize O:(mkAt fl (iN cs) m).length=N at*;have t:=F9 (i:=m) #[0] #[0];symm;rw[vV (show N<100 by omega),t.1];simp only[oz];have R:(numC N).length<=2:=gY;have I:(numC m.toNat).length<=2:=gY;refine⟨vW #[0],mj _ _ (by simp;omega),mj _ _ (by simp;omega),t.2,mj _ _ (by simp;omega),mj _ _ (by simp;omega),mj _ _ (by simp;omega),?_⟩
     have e:[99,111,117,110,116,32]++numC N++[32]++numC m.toNat++[32]++catL 32 (cs.map numC)=catL 32 (rowW .Count N m.toNat cs):=by
      show _=catL 32 (nmC .Count::numC N::numC m.toNat::cs.map numC);rw[fX (by simp),fX (by simp),fX (oY Y.ne),show nmC .Count=[99,111,117,110,116] from rfl];simp
     rw[e,show m=(((m.toNat:Nat):Int)) by omega];exact vY (r:=⟨.Count,N,m.toNat,cs,iN cs⟩) (q.of s) (zb X.F Y rfl #[1] #[0] (λe=>by cases e) (λ_=>by omega) (λe=>by cases e)) (s _ _ a)
 . refine cq (P3 e) ?_;symm;subst v;exact Df u X Y a q
def Dh{k:RK}{n m:Int}{o j:Option V}(i:k≠.Rule)(X:Rl40 H p f h w g fl)(Y:Cs58 h w cs)(c:H C=↥((iN cs).map V.int))(u:1<=m)(l:m<=g)(q:RlP Q H h w g):
  gf K (eD9 Q) [⇑n,↑p,↑f,⇑(fl.length:Int),some (.str (tx (nmC k))),⇑m,↑C,o,some (.str (tx (catL 32 (cs.map numC)))),j,none] H:=by
 have cl:=Y.len;have z:=mK cl;unfold gf;rw[ax,az];generalize t:ge K=W at*;symm;rw[show tx [115,101,101,110]=tx (nmC .Seen) from rfl,oa k .Seen i #[1]];by_cases e:k=.Seen
 . refine cp (P4 e) ?_;subst e;exists⟨f,C,fl,cs,rfl,X.ac Y c,λD a A d v s b B E=>?_⟩;have x:=b.length_le;symm;rw[aO s,P0,show(iN a).length=a.length by unfold iN;rw[P0]];symm;rw[vV (show a.length<100 by omega)];simp only[oz];have y:(numC a.length).length<=2:=gY;refine⟨vW #[0],mj _ _ (by simp;omega),mj _ _ (by simp;omega),mj _ _ (by simp;omega),?_⟩
   have e:[115,101,101,110,32]++numC a.length++[32]++catL 32 (cs.map numC)=catL 32 (rowW .Seen a.length 0 cs):=by
    show _=catL 32 (nmC .Seen::numC a.length::cs.map numC);rw[fX (by simp),fX (oY Y.ne),show nmC .Seen=[115,101,101,110] from rfl];simp
   rw[e];exact vY (r:=⟨.Seen,a.length,0,cs,iN cs⟩) (q.of d) (zb X.F Y rfl #[1] #[0] (λe=>by cases e) (λe=>by cases e) (λ_=>rfl)) (d _ _ c)
 . refine cq (P3 e) ?_;symm;subst t;exact Dg i X Y c u l q
def Di{k:RK}{n m:Int}{J G:Option V}(u:k≠.Rule)(X:Rl40 H p f h w g fl)(Y:Cs58 h w cs)(c:H C=↥((iN cs).map V.int))(D:1<=m)(I:m<=g)(q:RlP Q H h w g):
  gg K (eD9 Q) [⇑n,↑p,↑f,⇑(fl.length:Int),some (.str (tx (nmC k))),⇑m,↑C,J,some (.str (tx (catL 32 (cs.map numC)))),G,none] H:=by
 have P:=X.F.g1;have cl:=Y.len;have R:=mK cl;unfold gg;rw[ax,az];generalize B:gf K=W at*;symm;rw[show tx [115,117,109]=tx (nmC .Sum) from rfl,oa k .Sum u #[1]];by_cases e:k=.Sum
 . refine cp (P4 e) ?_;subst e;exists⟨⟨_,Qh c⟩,?_⟩;refine bc (λ_=>true) (λx=>fl.getD x.toNat 0) (by unfold iN;rw[P0];omega) (Qh c) ?_ ?_ ?_
   . intro x o Z a l k4;exact k4 _ (P2 _)
   . intro x o E a N l k4;show tOp cIx _ _ [none,⇑x,↑f] o E;symm;have b:=Jj Y X.fll X.sg a;exact ixI (l _ _ X.f) b.1 b.2.1 (k4 _ (P2 _))
   . intro S M O s d;have d:M S=↥((sgAt fl (iN cs)).map V.int):=by rw[RF.mpr (λ_ _=>rfl)]at d;exact d
     have v:∀ x∈sgAt fl (iN cs),0<=x/\x<=6:=λx a=>by
      unfold sgAt at a;obtain⟨z,L,rfl⟩:=Qe.mp a;have b:=Jj Y X.fll X.sg L;omega
     have T:(sgAt fl (iN cs)).length=cs.length:=by unfold sgAt iN;simp
     have A:=Dd _ v;exists vR d (λx a=>by have:=v x a;omega) #[0] ?_;have j:(sgAt fl (iN cs)).sum<100:=by omega
     generalize y:(sgAt fl (iN cs)).sum=sm at*;have t:=F9 (i:=sm) A.1 j;symm;rw[t.1];simp only[oz];have U:(numC sm.toNat).length<=2:=gY;refine⟨t.2,mj _ _ (by simp;omega),mj _ _ (by simp;omega),mj _ _ (by simp;omega),?_⟩
     have e:[115,117,109,32]++numC sm.toNat++[32]++catL 32 (cs.map numC)=catL 32 (rowW .Sum sm.toNat 0 cs):=by
      show _=catL 32 (nmC .Sum::numC sm.toNat::cs.map numC);rw[fX (by simp),fX (oY Y.ne),show nmC .Sum=[115,117,109] from rfl];simp
     rw[e];exact vY (r:=⟨.Sum,sm.toNat,0,cs,iN cs⟩) (q.of s) (zb X.F Y rfl #[1] #[0] (λe=>by cases e) (λe=>by cases e) (λ_=>rfl)) (s _ _ c)
 . refine cq (P3 e) ?_;symm;subst B;exact Dh u X Y c D I q
def Dj{k:RK}{n m:Int}{e c:Option V}(i:k≠.Rule)(X:Rl40 H p f h w g fl)(Y:Cs58 h w cs)(b:H C=↥((iN cs).map V.int))(l:1<=m)(d:m<=g)(q:RlP Q H h w g):
  dL K (eD9 Q) [⇑n,↑p,↑f,⇑(fl.length:Int),some (.str (tx (nmC k))),⇑m,↑C,e,none,c,none] H:=by
 unfold dL;rw[ax,bP];refine LF rfl b Y.len (Y.lt100 X.F) λo a=>?_;generalize j:gg K=W at*;symm;subst j;exact Di i (X.same a) Y (a _ _ b) l d (q.of a)
def Dk{k:RK}{n m:Int}{s o:Option V}(u:k≠.Rule)(v:4<n%8->allK k=true)(X:Rl40 H p f h w g fl)(Y:Cs58 h w cs)(A:H C=↥((iN cs).map V.int))(z:1<=m)(E:m<=g)(q:RlP Q H h w g):
  gh K (eD9 Q) [⇑n,↑p,↑f,⇑(fl.length:Int),some (.str (tx (nmC k))),⇑m,↑C,s,none,o,none] H:=by
 have N:=X.F.g1;have J:=X.m9;have B:=X.fll;have fin:∀ c,Same H c->dL K (eD9 Q) [⇑n,↑p,↑f,⇑(fl.length:Int),some (.str (tx (nmC k))),⇑m,↑C,s,none,o,none] c:=λc a=>Dj u (X.same a) Y (a _ _ A) z E (q.of a);unfold gh;rw[ax,az];generalize M:dL K=W at*;exists⟨by decide,?_⟩;by_cases h4:4<n%8
 . refine cp (P4 h4) ?_;exists⟨p,f,h,w,g,m,fl,_,rfl,X.p,X.F,X.f,X.fll,λb c a=>?_⟩
   cases b with
   | false=>
    refine⟨false,rfl,?_⟩;exact fin c a
   | true=>
    refine⟨true,rfl,?_⟩;have l:=v h4
    have d:numK k=false/\sgnK k=true/\(nmC k).length<=10:=by
     revert l
     cases k <;> decide
    refine iteT ?_;exists⟨_,rfl,by omega,by omega,λD x=>?_⟩;obtain⟨O,G,I,j⟩:=aU (.lst ((rngL 0 (fl.length:Int)).map V.int)) x;rw[G];have t:=F9 (i:=m) #[0] #[0];have L:(numC m.toNat).length<=2:=gY;symm;rw[t.1];simp only[oz];refine⟨mj _ _ (by simp;omega),t.2,mj _ _ (by simp;omega),?_⟩
    have e:nmC k++[32]++numC m.toNat=catL 32 (rowW k 0 m.toNat []):=by
     unfold rowW;rw[d.1,d.2.1];show _=nmC k++32::numC m.toNat;simp
    have y:(fl.length:Int)=h*w:=by
     have:=X.F.h0;have:=X.F.w0;have:0<=h*w:=Rw #[0] #[0];omega
    rw[e,show m=(((m.toNat:Nat):Int)) by omega];rw[y]at j;exact vY (r:=⟨k,0,m.toNat,[],rngL 0 (h*w)⟩) (q.of (a.trans I)) (HD l u d.1 d.2.1 #[0] #[0]) j
 . refine cq (P3 h4) ?_;exact fin H (P2 _)
abbrev Ca9(Z:Z5)(k:Nat)(x:Str)(a:List Str)(sp:Sp):Prop:=Cal Z.P Z.w Z.K Z.mg Z.base k x a sp
abbrev Ao:List V:=[V.str (tx [117,110,108,105,107,101]),V.str (tx [115,117,109]),V.str (tx [114,105,115,105,110,103]),V.str (tx [115,101,101,110]),V.str (tx [99,111,117,110,116]),V.str (tx [106,111,105,110,101,100]),V.str (tx [110,111,115,113,117,97,114,101]),V.str (tx [114,105,110,103])]
def Ko{j:Int}(a:0<=j)(b:j<8):∃ k:RK,k≠.Rule/\(4<j->allK k=true)/\atI Ao j=some (V.str (tx (nmC k))):=by
 have e:j=0\/j=1\/j=2\/j=3\/j=4\/j=5\/j=6\/j=7:=by omega
 rcases e with rfl | rfl | rfl | rfl | rfl | rfl | rfl | rfl
 . exact⟨.Unlike,by decide,by decide,rfl⟩
 . exact⟨.Sum,by decide,by decide,rfl⟩
 . exact⟨.Rising,by decide,by decide,rfl⟩
 . exact⟨.Seen,by decide,by decide,rfl⟩
 . exact⟨.Count,by decide,by decide,rfl⟩
 . exact⟨.Joined,by decide,by decide,rfl⟩
 . exact⟨.NoSquare,by decide,by decide,rfl⟩
 . exact⟨.Ring,by decide,by decide,rfl⟩
def Ap{vs:List V}{E:XK}(h:mf K vs H Q E):mh K (eD9 Q) (start ["_law_number","_law_floor_here","_law_filling","_law_many","_law_word","_law_sign","_law_cells","_law_cell","_law_end","_law_count","_law_some"] vs) H:=by
 obtain⟨p,f,n,h,w,g,fl,rfl,X,q⟩:=h;have x:=X.fll;have A:=X.m9;have I:=X.F.g0;have J:1<=h*w:=by have:=X.F.h0;have:=X.F.w0;exact Tv #[0] #[0]
 ac_nf;unfold mh;rw[ax];generalize a:jq K=W at*;symm;rw[aO X.f,P0];subst a;unfold jq;rw[ax];generalize a:jp K=W at*;exists⟨lnR rfl,λU u=>?_⟩;refine⟨by decide,?_⟩;have i:Same H (upd H U (.lst Ao)):=(P2 H).laid u;have o:(upd H U (.lst Ao)) U=↥Ao:=ai;show cIx (V.ref U) (V.int (n%8)) (upd H U (.lst Ao)) _;generalize upd H U (.lst Ao)=H1 at*;obtain⟨k,k0,s,m⟩:=Ko (j:=n%8) (QK n #[1]) (QA n #[1]);refine ixL o m ?_;subst a;unfold jp;generalize a:gh K=W at*;exists⟨⟨by decide,by decide⟩,?_⟩;refine ixT (i _ _ X.p) (v:=V.int g) rfl ?_;symm;have L:=QK (n/8) (show g≠0 by omega);have D:=QA (n/8) (show 0<g by omega);refine⟨by omega,?_⟩;symm;have M:1<=(if (5:Int) < (fl.length:Int) then(5:Int) else(fl.length:Int))/\(if (5:Int) < (fl.length:Int) then(5:Int) else(fl.length:Int))<=fl.length:=by split <;> omega
 refine⟨⟨by decide,by decide⟩,by decide,⟨by decide,by decide⟩,?_⟩;generalize (if (5:Int) < (fl.length:Int) then(5:Int) else(fl.length:Int))=mm at*;have G:=QK (n/32) (show mm≠0 by omega);have B:=QA (n/32) (show 0<mm by omega);refine⟨by omega,?_⟩;refine⟨_,_,_,rfl,by omega,by omega,by omega,λC cs O y N t z l d=>?_⟩;subst a;have Y:Cs58 h w cs:=⟨λe=>by rw[e]at d;simp at d;omega,z,λc r=>by have:=l c r;omega,by omega⟩;have b:=i.trans y;exact Dk k0 s (X.same b) Y t #[0] #[0] (q.of b)
end
def Gf{q:Addr}{a:List Str}{w:Str}(k:H q=↥(a.map V.str))(g:w∈a)(j:∀ x∈a,PyData.strOk x=true)(o:a.length<=900)(h:Q (.int (a.findIdx (· ==w):Nat)) H):kE K (.ref q) [.str w] H Q:=by
 have b:a.findIdx (· ==w)<a.length:=RU ⟨w,g,by simp⟩;refine⟨a.map PyData.str,.str w,a.findIdx (· ==w),.lst (Qh k) (.strs a),.str w,qW λd l=>by obtain⟨x,n,rfl⟩:=Qe.mp l;rw[PyData.canLay0];exact j x n,by rw[PyData.canLay0];exact j w g,?_,by omega,⟨.str a[a.findIdx (· ==w)],?_,?_⟩,λm e c i=>?_,h⟩
 . rw[show(PyData.str w).depth=0 by simp[PyData.depth]];omega
 . rw[P5,P1 b];rfl
 . have:=List.findIdx_getElem (w:=b);rw[kq,P6]
   simpa using this
 . have f:m<a.length:=by omega
   rw[P5,P1 f]at i;cases i;have:=TM c;rw[kq,Sr]
   simpa using this
def Gg:List (List Nat)->(St->Hp->(List V->Hp->Prop)->Prop)
 | []=>tNil
 | x::r=>tCons (tC (.str (tx x))) (Gg r)
def Gh:List (List (List Nat))->(St->Hp->(List V->Hp->Prop)->Prop)
 | []=>tNil
 | p::r=>tCons (tLst (Gg p)) (Gh r)
theorem Aq{σ:St}:∀(a:List (List Nat)) (H:Hp) (Q:List V->Hp->Prop),Q (a.map λx=>V.str (tx x)) H->Gg a σ H Q
 | [],H,Q,h=>h
 | x::r,H,Q,h=>by
  unfold Gg;exists Aq r H _ h
theorem Dl{σ:St}:∀(ps:List (List (List Nat))) (H:Hp) (Q:List V->Hp->Prop),(∀ p∈ps,p.length<=1000)->(∀(as:List Addr) (H':Hp),Same H H'->(∀ a∈as,H a=none)->as.length=ps.length->(∀(j:Nat) (a:Addr) (p:List (List Nat)),as[j]? =some a->ps[j]? =some p->H' a=↥(p.map λx=>V.str (tx x)))->Q (as.map V.ref) H')->Gh ps σ H Q
 | [],H,Q,_,h=>h [] H (P2 H) (λ_ h=>nomatch h) rfl λj a p e _=>by simp at e
 | p::r,H,Q,c,h=>by
  unfold Gh;exists Aq p H _ ?_;refine⟨aQ (by rw[P0];exact c p Qm),λt g=>?_⟩;obtain⟨o,k,f,i⟩:=aU (.lst (p.map λx=>V.str (tx x))) g;rw[k];refine Dl r o _ (λp n=>c p (Qg _ n)) λas m d l c b=>?_
  refine h (t::as) m (f.trans d) (λa b=>by
   rcases Qs.mp b with rfl | b
   . exact g
   . exact f.free (l a b)) (by simp[c]) λj a q e1 e2=>?_
  match j,e1,e2 with
  | 0,e1,e2=>
   simp at e1 e2;subst e1 e2;exact d _ _ i
  | j+1,e1,e2=>exact b j a q (by simpa using e1) (by simpa using e2)
def mq:RK->List TK
 | .Unlike=>[.only,.place,.pair,.only,.ways]
 | .Ring=>[.reach,.turn,.turn]
 | .Sum=>[.sum,.ways]
 | .Rising=>[.step,.ways]
 | .Seen=>[.ways]
 | .Count=>[.count,.ways]
 | .Joined=>[.reach]
 | .NoSquare=>[.square]
 | .Rule=>[]
abbrev ks40:List RK:=[.Sum,.Rising,.Seen,.Count,.Joined,.NoSquare]
def lF(K:Frag):Sp:=#[3,∃ k:RK,vs=[.str (tx (nmC k))]/\k≠.Rule/\∀(l:Addr) (H':Hp),Same H H'->H l=none->KdL H' l (mq k)->Q (.ref l) H']
def mV(K:Frag):TS:=#[":jbiuauadqr`0adqr`1eauadqr`2adqr`1eauadqr`1eauadqr`3adqr`1eauadqr`4eauadqr`5eeRcQ~Hc1a0e",[115,117,109],[119,97,121,115],[115,116,101,112],[99,111,117,110,116],[114,101,97,99,104],[115,113,117,97,114,101]]
def iT(K:Frag):TS:=#[":gluadqr`0adqr`1adqr`2adqr`3adqr`4adqr`5eh#1 }Nc",[115,117,109],[114,105,115,105,110,103],[115,101,101,110],[99,111,117,110,116],[106,111,105,110,101,100],[110,111,115,113,117,97,114,101]]
def iV(K:Frag):TS:=#[":gombsc0dqr`0juadqr`1adqr`2adqr`2ep}Oc",[114,105,110,103],[114,101,97,99,104],[116,117,114,110]]
def lG(K:Frag):TS:=#[":gombsc0dqr`0juadqr`1adqr`2adqr`3adqr`1adqr`4ep}Pc",[117,110,108,105,107,101],[111,110,108,121],[112,108,97,99,101],[112,97,105,114],[119,97,121,115]]
def zc(h:lF K vs H Q E):lG K (eD9 Q) (start ["_law_word","_law_words"] vs) H:=by
 obtain⟨k,rfl,d,q⟩:=h;ac_nf;unfold lG;rw[ax,az];generalize f:iV K=W at*;symm;rw[show tx [117,110,108,105,107,101]=tx (nmC .Unlike) from rfl,oa k .Unlike d #[1]];by_cases e:k=.Unlike
 . refine cp (P4 e) ?_;subst e;exists⟨lnR rfl,λl a=>?_⟩;exact q l _ ((P2 H).laid a) a ai
 refine cq (P3 e) ?_;symm;subst f;unfold iV;rw[ax,az];generalize f:iT K=W at*;symm;rw[show tx [114,105,110,103]=tx (nmC .Ring) from rfl,oa k .Ring d #[1]];by_cases e2:k=.Ring
 . refine cp (P4 e2) ?_;subst e2;exists⟨lnR rfl,λl a=>?_⟩;exact q l _ ((P2 H).laid a) a ai
 refine cq (P3 e2) ?_;symm;subst f;unfold iT;rw[ax,bP,dy];refine Aq (ks40.map nmC) H _ ?_;refine⟨lnR rfl,λU y=>?_⟩;obtain⟨H1,g,s1,eU⟩:∃ z,upd H U (.lst ((ks40.map nmC).map λx=>V.str (tx x)))=z/\Same H z/\z U=↥((ks40.map λk=>tx (nmC k)).map V.str):=aU _ y;rw[g];rw[aP];dsimp only[List.set_cons_succ,List.set_cons_zero];unfold mV;rw[cH,fU,dy];refine Dl ((ks40.map mq).map λm=>m.map tkC) H1 _ #[1] λas J n w a F=>?_;have p:as.length=6:=a;refine⟨aQ (by rw[P0];omega),λI s=>?_⟩;obtain⟨D,g,c,u⟩:=aU (.lst (as.map V.ref)) s;rw[g];exists⟨cC ((n.trans c) _ _ eU),?_⟩;have b:k∈ks40:=by revert e e2 d;cases k <;> decide
 refine Gf ((n.trans c) _ _ eU) (Qe.mpr ⟨k,b,rfl⟩) (λx t=>by
  obtain⟨j,_,rfl⟩:=Qe.mp t;exact FU (Ma j)) #[1] ?_
 have B:∃ i:Nat,i<6/\(ks40.map λk=>tx (nmC k)).findIdx (· ==tx (nmC k))=i/\((ks40.map mq).map λm=>m.map tkC)[i]? =some ((mq k).map tkC):=by
  revert e e2 d
  cases k
  case Rule=>intro h;exact absurd rfl h
  case Unlike=>intro _ h;exact absurd rfl h
  case Ring=>intro _ _ h;exact absurd rfl h
  case Sum=>intros;exact⟨0,by decide,by decide+kernel,rfl⟩
  case Rising=>intros;exact⟨1,by decide,by decide+kernel,rfl⟩
  case Seen=>intros;exact⟨2,by decide,by decide+kernel,rfl⟩
  case Count=>intros;exact⟨3,by decide,by decide+kernel,rfl⟩
  case Joined=>intros;exact⟨4,by decide,by decide+kernel,rfl⟩
  case NoSquare=>intros;exact⟨5,by decide,by decide+kernel,rfl⟩
 obtain⟨i,G,r,A⟩:=B;rw[r];have o:as[i]? =some (as[i]'#[0]):=P1 #[0];refine ixL u (v:=V.ref (as[i]'#[0])) (dS (by rw[P5,o];rfl)) ?_;have C:=c _ _ (F i _ _ o A);refine q _ D ((s1.trans n).trans c) (s1.free (w _ (QE _))) ?_;unfold KdL;rw[C,QO,QO];rfl
def Kp(t u:TK):decide (tx (tkC t)=tx (tkC u))=decide (t=u):=Kj
def Ia{xs:∅}{j:Int}(a:0<=j)(b:j<xs.length):atI (xs.map V.int) (-1-j)=some (V.int (xs.getD (xs.length-1-j.toNat) 0)):=by
 unfold atI ixN;rw[P0,Qp #[0],Qt #[0]];show(xs.map V.int)[(-1-j+(xs.length:Int)).toNat]? =_;rw[show(-1-j+(xs.length:Int)).toNat=xs.length-1-j.toNat by omega,P5,P1 #[0],List.getD,P1 #[0]];rfl
structure Mr40(H:Hp)(p A C:Addr)(h w g n z goal:Int)(cs ms:∅)(t:TK):Prop where
 p:IsFl H p h w g
 F:FlOk h w g
 A:H A=↥(ms.map V.int)
 mn:ms.length<=16
 C:H C=↥(cs.map V.int)
 cn:cs.length<=16
 n0:0<=n
 z0:0<=z
 z1:z<h*w
 go:t=.reach->1<=goal/\goal<=6
def MrP(Q:VK)(H:Hp):Prop:=∀(M:Addr) (xs:∅) (H':Hp),Same H H'->H M=none->H' M=↥(xs.map V.int)->xs.length<=100->Q (.ref M) H'
def MrP.of{a:Hp}(q:MrP Q H)(s:Same H a):MrP Q a:=λM xs H' c b e l=>q M xs H' (s.trans c) (s.free b) e l
def mr(K:Frag):Sp:=#[3,∃ p A C h w g n z s a cs ms t,vs=[.str (tx (tkC t)),.int n,.ref p,.ref A,.ref C,.int z,.int s,.int a]/\Mr40 H p A C h w g n z a cs ms t/\MrP Q H]
def Gi(K:Frag):TS:=#[":glbvz&--573 *anxa3eeh#1 WmbEc12mbscbi41b~Mdf#1 bI3df#1 1uadf#0 eh#11 j~k~luabi|bbA1nxa|beabi|bbI~*`0df#1 bAbL1df#16 nxa|bee~x~dbIdf#2 n'zabsc67e",(rU λi=>.int (-i))]
def iW(K:Frag):TS:=#[":jue"]
def jr(K:Frag):TS:=#[":goWmbsc0dqr`0mbscbA1df#2 df#1 juabi|cbAbL1df#2 nxa|ceep}Qc",[116,117,114,110]]
def gi(K:Frag):TS:=#[":glbv,'nca2a5euadf#0 eh#12 }Rc"]
def gj(K:Frag):TS:=#[":gombsc0dqr`0}Scp}Tc",[114,101,97,99,104]]
def gk(K:Frag):TS:=#[":gombsc0dqr`0juan}Uadf#0 abI5biuadf#0 adf#1 abi2df#1 abvbi2df#1 df#1 ebA1df#4 eep}Vc",[115,113,117,97,114,101]]
def js(K:Frag):TS:=#[":gombsc0dqr`0juabi98abi9|aep}Wc",[112,97,105,114]]
def jt(K:Frag):TS:=#[":gombsc0dqr`0juabvdf#1 bA1bi2df#2 ep}Xc",[112,108,97,99,101]]
def gl(K:Frag):TS:=#[":gombsc0dqr`0juabi98ep}Yc",[111,110,108,121]]
def ju(K:Frag):TS:=#[":glbA1nxa9eh#8 gln~:abvbv8df#1 bAbL1df#16 nxa9eabInxa9edf#1 eh#10 }Zc"]
def mt(K:Frag):TS:=#[":glbvz&--5 yc4h#1 mbEc121ua5eh#9 }*c"]
section
variable{K:Frag}{H:Hp}{Q:VK}{p A C O:Addr}{h w g n z s goal:Int}{cs ms os:∅}{t:TK}
def Mr40.same{H':Hp}(X:Mr40 H p A C h w g n z goal cs ms t)(s:Same H H'):Mr40 H' p A C h w g n z goal cs ms t:=⟨s _ _ X.p,X.F,s _ _ X.A,X.mn,s _ _ X.C,X.cn,X.n0,X.z0,X.z1,X.go⟩
def B3(q:MrP Q H){x:Int}:([V.int x]:List V).length<=sizeLine/\∀ l,H l=none->Q (.ref l) (upd H l (.lst [V.int x])):=⟨lnR rfl,λl a=>q l [x] _ ((P2 H).laid a) a ai (by show(1:Nat)<=100;decide)⟩
def sX{x:Int}{xs:∅}(h:0<xs.length):0<=x % ((xs.length:Nat):Int)/\x % ((xs.length:Nat):Int) < ((xs.length:Nat):Int):=⟨QK x #[0],QA x #[0]⟩
def Dm{v8 f c v11:Option V}(X:Mr40 H p A C h w g n z goal cs ms t)(q:MrP Q H):
  gi K (eD9 Q) [some (.str (tx (tkC t))),⇑n,↑p,↑A,↑C,⇑z,⇑s,⇑goal,v8,f,c,v11,none] H:=by
 unfold gi;generalize d:jr K=W at*;exists⟨p,h,w,g,z,rfl,X.p,X.F,λN i o B y=>?_⟩;have D:=sW X.F X.z0 X.z1;exists⟨lnR rfl,λZ r=>?_⟩;obtain⟨H2,z9,s2,eZ⟩:∃ z,upd i Z (.lst [V.int 0])=z/\Same i z/\z Z=↥(([0]:∅).map V.int):=aU _ r;rw[z9];refine jC (s2 _ _ y) eZ (by rw[P0,P0];simp;omega) λY u=>?_;have v:Same H2 (upd H2 Y (.lst ((nearL h w z).map V.int++([0]:∅).map V.int))):=(P2 H2).laid u;have j:(upd H2 Y (.lst ((nearL h w z).map V.int++([0]:∅).map V.int))) Y=↥((nearL h w z++[0]).map V.int):=by rw[ai,Re]
 generalize upd H2 Y (.lst ((nearL h w z).map V.int++([0]:∅).map V.int))=H3 at*;have a:=o.trans (s2.trans v);have m:0 < (nearL h w z++[0]).length:=by simp
 generalize nearL h w z++[0]=ys at*;subst d;unfold jr;rw[ax,az];generalize d:iW K=W at*
 have fin:W (eD9 Q) [some (.str (tx (tkC t))),⇑n,↑p,↑A,↑C,⇑z,⇑s,⇑goal,v8,f,c,v11,↑Y] H3:=by
  subst d;unfold iW;exists⟨aQ #[1],λl k=>q l [] _ (a.trans ((P2 H3).laid k)) (a.free k) ai #[1]⟩
 symm;by_cases e:tx (tkC t)=tx [116,117,114,110]
 . refine cp (P4 e) ?_;exists⟨by decide,?_⟩;by_cases e1:n%2=1
   . refine cp (P4 e1) ?_;symm;rw[aO j,P0];have b:=sX (x:=n/2) m;exists⟨⟨by decide,by decide⟩,by omega,?_⟩;refine ixI j b.1 b.2 ?_;exact B3 (q.of a)
   . refine cq (P3 e1) ?_;exact fin
 . refine cq (P3 e) ?_;exact fin
def Kq{v8 P e:Option V}(L:t=.reach)(X:Mr40 H p A C h w g n z goal cs ms t)(q:MrP Q H){D:Ends}(E:D.rt=Q):
  Gi K D [some (.str (tx (tkC t))),⇑n,↑p,↑A,↑C,⇑z,⇑s,⇑goal,v8,P,e,none,none] H:=by
 have go:=X.go L;have mn:=X.mn;unfold Gi;symm;rw[aO X.A,P0];refine⟨_,rfl,by omega,by omega,?_⟩;refine fV (λ(i:Nat)=>!decide ((i:Int)=z)&&decide (ms.getD i 0=1*2^(goal-1).toNat)) (λ(i:Nat)=>(i:Int)) #[0] ?_ ?_ ?_
 . intro i c W f a k4;have I:i<ms.length:=by have:i < ((ms.length:Nat):Int).toNat:=f;omega
   show tAnd _ _ [none,⇑(0+(i:Int)),⇑z,⇑goal,↑A] c W;rw[Rs];symm
   cases o:decide ((i:Int)=z) with
   | true=>
    rw[o]at k4;exact k4 _ (P2 _)
   | false=>
    rw[o]at k4;refine iteT ?_;exists ixI (a _ _ X.A) #[0] #[0] ?_;rw[QV];exists⟨⟨by omega,by omega,by decide⟩,?_⟩;exists k4 _ (P2 _)
 . intro i c M f T a k4;show tVar 1 [none,⇑(0+(i:Int)),⇑z,⇑goal,↑A] c M;rw[Rs];exists k4 _ (P2 _)
 . intro N r hN R J
   have ul:(((List.range ((ms.length:Nat):Int).toNat).filter λ(i:Nat)=>!decide ((i:Int)=z)&&decide (ms.getD i 0=1*2^(goal-1).toNat)).map λ(i:Nat)=>(i:Int)).length<=16:=by
    rw[P0];refine Qa (Qk _ _) ?_;rw[QU];omega
   generalize ((List.range ((ms.length:Nat):Int).toNat).filter λ(i:Nat)=>!decide ((i:Int)=z)&&decide (ms.getD i 0=1*2^(goal-1).toNat)).map (λ(i:Nat)=>(i:Int))=us at*;exists⟨lnR rfl,λZ F=>?_⟩;obtain⟨H2,z9,s2,eZ⟩:∃ z,upd r Z (.lst [V.int 0])=z/\Same r z/\z Z=↥(([0]:∅).map V.int):=aU _ F;rw[z9];refine jC (s2 _ _ J) eZ (by rw[P0,P0];simp;omega) λY S=>?_;have O:Same H2 (upd H2 Y (.lst (us.map V.int++([0]:∅).map V.int))):=(P2 H2).laid S;have d:(upd H2 Y (.lst (us.map V.int++([0]:∅).map V.int))) Y=↥((us++[0]).map V.int):=by rw[ai,Re]
   generalize upd H2 Y (.lst (us.map V.int++([0]:∅).map V.int))=H3 at*;have b:=R.trans (s2.trans O);have m:0 < (us++[0]).length:=by simp
   generalize us++[0]=ys at*;have u:=sX (x:=n) m;have j:=sX (x:=n/16) m;symm;rw[aO d,P0];exists⟨by omega,?_⟩;refine ixI d u.1 u.2 ?_;exists⟨⟨by decide,by decide⟩,?_⟩;rw[aO d,P0];exists⟨by omega,?_⟩;refine ixL d (Ia j.1 j.2) ?_;refine⟨lnR rfl,λU G=>?_⟩;obtain⟨c,z9,a,eU⟩:∃ z,upd H3 U (.lst [V.int (ys.getD (n % ((ys.length:Nat):Int)).toNat 0),V.int (ys.getD (ys.length-1 - (n/16 % ((ys.length:Nat):Int)).toNat) 0)])=z/\Same H3 z/\z U=↥(([ys.getD (n % ((ys.length:Nat):Int)).toNat 0,ys.getD (ys.length-1 - (n/16 % ((ys.length:Nat):Int)).toNat) 0]:∅).map V.int):=aU _ G;rw[z9];have zl:([ys.getD (n % ((ys.length:Nat):Int)).toNat 0,ys.getD (ys.length-1 - (n/16 % ((ys.length:Nat):Int)).toNat) 0]:∅).length=2:=rfl;generalize ([ys.getD (n % ((ys.length:Nat):Int)).toNat 0,ys.getD (ys.length-1 - (n/16 % ((ys.length:Nat):Int)).toNat) 0]:∅)=zs at*;symm
   have B:∃ k:Nat,(2:Int) - (if decide (s=goal)=true then 1 else 0)=(k:Int):=by
    split
    . exact⟨1,rfl⟩
    . exact⟨2,rfl⟩
   obtain⟨k,y⟩:=B;rw[y];refine yw eU λl v=>?_;rw[HL V.int];rw[E];exact q l (zs.take k) _ ((b.trans a).trans ((P2 c).laid v)) ((b.trans a).free v) ai (by rw[Rt];omega)
def Dn{v8 b a:Option V}(X:Mr40 H p A C h w g n z goal cs ms t)(q:MrP Q H):
  gj K (eD9 Q) [some (.str (tx (tkC t))),⇑n,↑p,↑A,↑C,⇑z,⇑s,⇑goal,v8,b,a,none,none] H:=by
 unfold gj;rw[ax,az];generalize d:gi K=W at*;generalize c:Gi K=V' at*;symm;rw[show tx [114,101,97,99,104]=tx (tkC .reach) from rfl,Kp t .reach];by_cases e:t=.reach
 . refine cp (P4 e) ?_;subst c;exact Kq e X q rfl
 . refine cq (P3 e) ?_;symm;subst d;exact Dm X q
def Do{v8 b a:Option V}(X:Mr40 H p A C h w g n z goal cs ms t)(q:MrP Q H):
  gk K (eD9 Q) [some (.str (tx (tkC t))),⇑n,↑p,↑A,↑C,⇑z,⇑s,⇑goal,v8,b,a,none,none] H:=by
 unfold gk;rw[ax,az];generalize i:gj K=W at*;symm;by_cases e:tx (tkC t)=tx [115,113,117,97,114,101]
 . refine cp (P4 e) ?_;exists ixT X.p (v:=V.int w) rfl ?_;refine ixT X.p (v:=V.int w) rfl ?_;exists⟨lnR rfl,λU c=>?_⟩;obtain⟨H1,z9,s1,eU⟩:∃ z,upd H U (.lst [V.int 0,V.int 1,V.int w,V.int (w+1)])=z/\Same H z/\z U=↥(([0,1,w,w+1]:∅).map V.int):=aU _ c;rw[z9];have d:=QK n (show(4:Int)≠0 by decide);have f:=QA n (show(0:Int)<4 by decide);refine⟨by decide,?_⟩;refine ixI eU d (by show n%4<4;exact f) ?_;exists B3 (q.of s1)
 . refine cq (P3 e) ?_;symm;subst i;exact Dn X q
def Dp{i j:Int}{v11:Option V}(X:Mr40 H p A C h w g n z goal cs ms t)(b:H O=↥(os.map V.int))(c:0<=i)(k:i<os.length)(m:0<=j)(o:j<os.length)(q:MrP Q H):
  gl K (eD9 Q) [some (.str (tx (tkC t))),⇑n,↑p,↑A,↑C,⇑z,⇑s,⇑goal,⇑i,↑O,⇑j,none,none] H:=by
 have r:=X.F.g0;unfold gl;rw[ax,az];generalize a:jt K=W at*;symm;by_cases e:tx (tkC t)=tx [111,110,108,121]
 . refine cp (P4 e) ?_;exists ixI b c k ?_;exact B3 q
 refine cq (P3 e) ?_;symm;subst a;unfold jt;rw[ax,az];generalize a:js K=W at*;symm;by_cases e2:tx (tkC t)=tx [112,108,97,99,101]
 . refine cp (P4 e2) ?_;exists ixT X.p (v:=V.int g) rfl ?_;exists⟨by omega,B3 q⟩
 refine cq (P3 e2) ?_;symm;subst a;unfold js;rw[ax,az];generalize a:gk K=W at*;symm;by_cases f:tx (tkC t)=tx [112,97,105,114]
 . refine cp (P4 f) ?_;exists ixI b c k ?_;refine ixI b m o ?_;exact⟨lnR rfl,λl d=>q l [_,_] _ ((P2 H).laid d) d ai (by show(2:Nat)<=100;decide)⟩
 refine cq (P3 f) ?_;symm;subst a;exact Do X q
def Ar{vs:List V}{E:XK}(h:mr K vs H Q E):mt K (eD9 Q) (start ["_law_kind","_law_number","_law_floor_here","_law_masks","_law_cells","_law_cell","_law_sign","_law_goal","_law_one","_law_others","_law_other","_law_must","_law_near_here"] vs) H:=by
 obtain⟨p,A,C,h,w,g,n,z,s,goal,cs,ms,t,rfl,X,q⟩:=h;have D:=X.cn;have I:=X.n0;ac_nf;unfold mt;rw[ax];generalize d:ju K=W at*;exists⟨⟨_,Qh X.C⟩,?_⟩;refine bc (xs:=cs) (λx=>!decide (x=z)) (λx=>x) #[0] (Qh X.C) ?_ ?_ ?_
 . intro x e F l k k4;show tTest _ [none,⇑x,⇑z] e F;exists k4 _ (P2 _)
 . intro x e r l B k k4;show tVar 1 [none,⇑x,⇑z] e r;exists k4 _ (P2 _)
 . intro N i J v o
   have L:((cs.filter λx=>!decide (x=z)).map λx=>x).length<=16:=by
    rw[P0];exact Qa (Qk _ _) D
   generalize (cs.filter λx=>!decide (x=z)).map (λx=>x)=us at*;exists⟨lnR rfl,λZ m=>?_⟩;obtain⟨H2,z9,s2,eZ⟩:∃ c,upd i Z (.lst [V.int z])=c/\Same i c/\c Z=↥(([z]:∅).map V.int):=aU _ m;rw[z9];refine jC (s2 _ _ o) eZ (by rw[P0,P0];simp;omega) λY y=>?_;have u:Same H2 (upd H2 Y (.lst (us.map V.int++([z]:∅).map V.int))):=(P2 H2).laid y;have b:(upd H2 Y (.lst (us.map V.int++([z]:∅).map V.int))) Y=↥((us++[z]).map V.int):=by rw[ai,Re]
   generalize upd H2 Y (.lst (us.map V.int++([z]:∅).map V.int))=H3 at*;have a:=v.trans (s2.trans u);have f:0 < (us++[z]).length:=by simp
   generalize us++[z]=ys at*;have j:=sX (x:=n) f;have G:=sX (x:=n/16) f;subst d;unfold ju;generalize d:gl K=W at*;symm;rw[aO b,P0];exists⟨by omega,?_⟩;symm;rw[aO b,P0];exists⟨⟨by decide,by decide⟩,by omega,?_⟩;symm;rw[aO b,P0];symm;subst d;exact Dp (v11:=none) (X.same a) b j.1 j.2 (by split <;> omega) (by split <;> omega) (q.of a)
end
def Ib{i j k o:Nat}{x y z u:V}{σ:St}{q:St->Hp->Prop}(h:q ((((σ.set i (some x)).set j (some y)).set k (some z)).set o (some u)) H):gCons (gName i) (gCons (gName j) (gCons (gName k) (gCons (gName o) gNil))) [x,y,z,u] σ H q:=⟨x,_,rfl,y,_,rfl,z,_,rfl,u,_,rfl,rfl,h⟩
structure Rs40(H:Hp)(Rl:Addr)(ts Cs:List Addr)(PP:List RR):Prop where
 top:H Rl=↥(ts.map V.ref)
 len:ts.length=PP.length
 lnC:Cs.length=PP.length
 at_:∀(i:Nat) (T C:Addr) (r:RR),ts[i]? =some T->Cs[i]? =some C->PP[i]? =some r->IsRl H T C r
variable{ts Cs:List Addr}{PP:List RR}
def Rs40.same{d:Addr}(x:Rs40 H d ts Cs PP)(s:Same H H'):Rs40 H' d ts Cs PP:=⟨s _ _ x.top,x.len,x.lnC,λi T C r a b c=>(x.at_ i T C r a b c).same s⟩
structure Th40(H:Hp)(p Rl A:Addr)(ts Cs:List Addr)(h w g n:Int)(PP:List RR)(PM:∅):Prop where
 p:IsFl H p h w g
 F:FlOk h w g
 m9:h*w<=9
 R:Rs40 H Rl ts Cs PP
 ok:∀ r∈PP,r.Ok h w g
 r1:1<=PP.length
 r2:PP.length<=12
 A:H A=↥(PM.map V.int)
 ml:PM.length=(h*w).toNat
 mm:∀ m∈PM,0<=m/\m<64
 n0:0<=n
def Th40.same{p a A:Addr}{n:Int}{PM:∅}(x:Th40 H p a A ts Cs h w g n PP PM)(s:Same H H'):Th40 H' p a A ts Cs h w g n PP PM:=⟨s _ _ x.p,x.F,x.m9,x.R.same s,x.ok,x.r1,x.r2,s _ _ x.A,x.ml,x.mm,x.n0⟩
def ThP40(Q:VK)(H:Hp)(h w:Int):Prop:=∀(T M:Addr) (a:Tho) (H':Hp),Same H H'->H T=none->H M=none->IsTh H' T M a.t a.r a.z a.s a.ms->0<=a.z->a.z<h*w->1<=a.s->a.s<=4->Q (.ref T) H'
def jv(K:Frag):Sp:=#[3,∃ p a A ts Cs h w g n PP PM,vs=[.int n,.ref p,.ref a,.ref A]/\Th40 H p a A ts Cs h w g n PP PM/\ThP40 Q H h w]
def dM(K:Frag):TS:=#[":gl,}+ca5eh#12 glbi|cbAbL0df#5000 nxa|ceh#13 jOa|da4a9a|ba,}-ca|dabL0df#40000 a1a3a6a9a|ba7ee"]
def dN(K:Frag):TS:=#[":gombscbA0df#7 df#6 jOadqr`0adf#0 a9a|baueep}/c",[99,108,117,101]]
def gM(K:Frag):TS:=#[":glbi6bAbL0df#42 nxa6eh#9 glbv,}:cabi39euadf#1 eh#10 glbi|abAbL0df#672 nxa|aeh#11 };c"]
def jw(K:Frag):TS:=#[":glbAbL0df#7 nxa2eh#4 glbi24?c#4 Mh#5 Mh#6 Mh#7 Mh#8 [}?c"]
def Mr(O:r.Ok h w g)(F:FlOk h w g){t:TK}(b:t∈mq r.k):t=.reach->1<=(r.m:Int)/\(r.m:Int)<=6:=λe=>by
 have a:sgnK r.k=true:=by
  subst e
  revert b
  cases r.k <;> decide
 have:=O.m0 a;have:=F.g1;omega
theorem As(O:r.Ok h w g)(F:FlOk h w g):0<r.cs.length/\r.cs.length<=16:=by
 have f:1<=h*w:=by have:=F.h0;have:=F.w0;exact Tv #[0] #[0]
 have b:=F.m
 cases a:allK r.k with
 | true=>
  rw[(O.cl.all a).2,l0];omega
 | false=>
  obtain⟨d,e,_,_,c⟩:=O.cl.told a;rw[c,P0];exact⟨List.length_pos_iff.mpr d,e⟩
section
variable{K:Frag}{H:Hp}{Q:VK}{p Rl A:Addr}{ts Cs:List Addr}{h w g n:Int}{PP:List RR}{PM:∅}
def ThP40.of{e:Hp}(q:ThP40 Q H h w)(s:Same H e):ThP40 Q e h w:=λT M j H' i g f x a b c d=>q T M j H' (s.trans i) (s.free g) (s.free f) x a b c d
def zd{C:Addr}{r:RR}{i z s:Int}{v8 b:Option V}(X:Th40 H p Rl A ts Cs h w g n PP PM)(O:r.Ok h w g)(k0:r.k≠.Rule)(L:H C=↥(r.cs.map V.int))(e:0<=z)(v:z<h*w)(N:1<=s)(B:s<=4)(q:ThP40 Q H h w):
  dM K (eD9 Q) [⇑n,↑p,↑Rl,↑A,⇑i,some (.str (tx (nmC r.k))),↑C,⇑r.m,v8,⇑z,b,⇑s,none,none] H:=by
 have I:=X.n0;have Z:=X.ml;have P:=X.m9;unfold dM;exists⟨r.k,rfl,k0,λl S a W o=>?_⟩;have kl:0 < (mq r.k).length:=by revert k0;cases r.k <;> decide
 have Y:=QK (n/5000) (show(((mq r.k).length:Nat):Int)≠0 by omega);have R:=QA (n/5000) (show 0 < (((mq r.k).length:Nat):Int) by omega);symm;rw[aO o,P0,P0];exists⟨⟨by decide,by decide⟩,by omega,?_⟩;generalize U:n/5000 % (((mq r.k).length:Nat):Int)=j at*;have f:j.toNat < (mq r.k).length:=by omega
 have x:atI (((mq r.k).map txk).map V.str) ((j.toNat:Nat):Int)=some (V.str (tx (tkC (mq r.k)[j.toNat]))):=dS (by rw[P5,P5,P1 f];rfl);rw[show((j.toNat:Nat):Int)=j by omega]at x;have D:=QE f;generalize (mq r.k)[j.toNat]=t at*;refine ixL o x ?_;exists⟨⟨by decide,by decide⟩,?_⟩;refine⟨p,A,C,h,w,g,n/40000,z,s,r.m,r.cs,PM,t,rfl,⟨a _ _ X.p,X.F,a _ _ X.A,by omega,a _ _ L,(As O X.F).2,Int.ediv_nonneg I #[1],e,v,Mr O X.F D⟩,λM xs c y G J E=>?_⟩;refine⟨lnR rfl,λT d=>?_⟩;have u:Same c (upd c T (.tup [V.str (tx (tkC t)),V.int i,V.int z,V.int s,V.ref M])):=(P2 c).laid d;exact q T M ⟨t,i,z,s,xs⟩ _ ((a.trans y).trans u) ((a.trans y).free d) (a.free G) ⟨ai,u _ _ J,E⟩ e v N B
def ze{C:Addr}{r:RR}{i z s:Int}{v8 a:Option V}(X:Th40 H p Rl A ts Cs h w g n PP PM)(O:r.Ok h w g)(k0:r.k≠.Rule)(u:H C=↥(r.cs.map V.int))(o:0<=z)(c:z<h*w)(b:1<=s)(d:s<=4)(q:ThP40 Q H h w):
  dN K (eD9 Q) [⇑n,↑p,↑Rl,↑A,⇑i,some (.str (tx (nmC r.k))),↑C,⇑r.m,v8,⇑z,a,⇑s,none,none] H:=by
 unfold dN;rw[ax,az];generalize t:dM K=W at*;exists⟨by decide,?_⟩;by_cases e:n%7=6
 . refine cp (P4 e) ?_;exists⟨aQ #[1],λM j=>?_⟩;obtain⟨H1,z9,s1,eM⟩:∃ z,upd H M (.lst [])=z/\Same H z/\z M=↥(([]:∅).map V.int):=aU _ j;rw[z9];refine⟨lnR rfl,λT f=>?_⟩;have l:Same H1 (upd H1 T (.tup [V.str (tx (tkC .clue)),V.int 0,V.int z,V.int s,V.ref M])):=(P2 H1).laid f;exact q T M ⟨.clue,0,z,s,[]⟩ _ (s1.trans l) (s1.free f) j ⟨ai,l _ _ eM,QI _⟩ o c b d
 . refine cq (P3 e) ?_;symm;subst t;exact zd X O k0 u o c b d q
def wk{vs:List V}{E:XK}(h:jv K vs H Q E):jw K (eD9 Q) (start ["_law_number","_law_floor_here","_law_rules","_law_masks","_law_rule_here","_law_word","_law_cells","_law_goal","_law_line","_law_cell","_law_signs_here","_law_sign","_law_kinds_here","_law_kind"] vs) H:=by
 obtain⟨p,Rl,A,ts,Cs,h,w,g,n,PP,PM,rfl,X,q⟩:=h;have r1:=X.r1;have rl:=X.R.len;have rc:=X.R.lnC;have ml:=X.ml;have n0:=X.n0;ac_nf;unfold jw;generalize l:gM K=W at*;symm;rw[aO X.R.top,P0];have j0:=QK (n/7) (show((ts.length:Nat):Int)≠0 by omega);have j1:=QA (n/7) (show 0 < ((ts.length:Nat):Int) by omega);exists⟨⟨by decide,by decide⟩,by omega,?_⟩;generalize n/7 % ((ts.length:Nat):Int)=i at*;have e1:ts[i.toNat]? =some (ts[i.toNat]'#[0]):=P1 #[0];have e2:Cs[i.toNat]? =some (Cs[i.toNat]'#[0]):=P1 #[0];have o:PP[i.toNat]? =some (PP[i.toNat]'#[0]):=P1 #[0];generalize (ts[i.toNat]'#[0])=T at*;generalize (Cs[i.toNat]'#[0])=C at*;generalize (PP[i.toNat]'#[0])=r at*;have L:=Qi o;have O:=X.ok r L;have Y:=X.R.at_ i.toNat T C r e1 e2 o;exists ixL X.R.top (v:=V.ref T) (by rw[show i=((i.toNat:Nat):Int) by omega];exact dS (by rw[P5,e1];rfl)) ?_;refine ox Y.top rfl ?_;refine Ib ?_;dsimp only[List.set_cons_succ,List.set_cons_zero];subst l;unfold gM;generalize l:dN K=W at*;have cl:=As O X.F;have b:=sX (x:=n/42) cl.1;symm;rw[aO Y.C,P0];exists⟨⟨by decide,by decide⟩,by omega,?_⟩;refine ixI Y.C b.1 b.2 ?_;have j:=RR.cin22 O X.F;have cz:=j.2 _ (ce (ms:=r.cs) (k:=(n/42 % ((r.cs.length:Nat):Int)).toNat) #[0]);generalize r.cs.getD (n/42 % ((r.cs.length:Nat):Int)).toNat 0=z at*;have f:0<=z/\z<h*w:=by omega
 exists ixI X.A f.1 #[0] ?_;have y:=X.mm _ (ce (ms:=PM) (k:=z.toNat) #[0]);refine⟨_,rfl,y.1,y.2,λS a t N hS U sl G=>?_⟩;exists⟨lnR rfl,λZ J=>?_⟩;obtain⟨H2,z9,s2,eZ⟩:∃ z,upd t Z (.lst [V.int 1])=z/\Same t z/\z Z=↥(([1]:∅).map V.int):=aU _ J;rw[z9];refine jC (s2 _ _ U) eZ (by rw[P0,P0];simp;omega) λe P=>?_;have M:Same H2 (upd H2 e (.lst (a.map V.int++([1]:∅).map V.int))):=(P2 H2).laid P;have m:(upd H2 e (.lst (a.map V.int++([1]:∅).map V.int))) e=↥((a++[1]).map V.int):=by rw[ai,Re]
 generalize upd H2 e (.lst (a.map V.int++([1]:∅).map V.int))=H3 at*;have c:=N.trans (s2.trans M);have I:0 < (a++[1]).length:=by simp
 have D:∀ x∈a++[1],1<=x/\x<=4:=λx d=>by
  rcases QD.mp d with d | d
  . have:=G x d;omega
  . rw[Qz.mp d];decide
 generalize a++[1]=ys at*;have u:=sX (x:=n/672) I;symm;rw[aO m,P0];exists⟨⟨by decide,by decide⟩,by omega,?_⟩;refine ixI m u.1 u.2 ?_;have B:=D _ (ce (ms:=ys) (k:=(n/672 % ((ys.length:Nat):Int)).toNat) #[0]);generalize ys.getD (n/672 % ((ys.length:Nat):Int)).toNat 0=s at*;subst l;exact ze (X.same c) O O.k0 (c _ _ Y.C) f.1 f.2 B.1 B.2 (q.of c)
end
def Ic{ms:∅}{z s:Int}(c:0<=z)(b:z<ms.length)(h:stB (ms.getD z.toNat 0) s=true):ms.set z.toNat (ms.getD z.toNat 0-1*2^(s-1).toNat)=stL ms z s:=by
 refine Rp λi=>?_;unfold stL;rw[P5,List.getElem?_set];rcases Ui i ms.length with a | a
 . rw[Ra a];by_cases e:z.toNat=i
   . rw[Qt e,Qt #[0]];show _=some (if (i:Int)=z then woI (ms.getD i 0) s else ms.getD i 0);rw[Qt #[0]];unfold woI;rw[← e,Qt h,T8]
   . rw[Qp e];show _=some (if (i:Int)=z then woI (ms.getD i 0) s else ms.getD i 0);rw[Qp #[0],List.getD,P1 a];rfl
 . rw[Qp #[0],Qr a,Qr (by rw[QU];exact a)];rfl
structure Wd40(K:Frag)(H:Hp)(c:Uk)(d:Ul)(a P L G p Rl:Addr)(ts Cs:List Addr)(ns:∅)(h w g:Int)(PP:List RR)(cl:∅):Prop where
 S:SqL K H a (ns.map V.int)
 n:ns.length<=63
 P:IsPz H c d P L G h w g PP cl
 p:IsFl H p h w g
 m9:h*w<=9
 g4:g<=4
 R:Rs40 H Rl ts Cs PP
 r1:1<=PP.length
def Wd40.same{c:Uk}{d:Ul}{a P L G p b:Addr}{ns:∅}{cl:∅}(x:Wd40 K H c d a P L G p b ts Cs ns h w g PP cl)(s:Same H H'):Wd40 K H' c d a P L G p b ts Cs ns h w g PP cl:=⟨s.seq x.S,x.n,x.P.same s,s _ _ x.p,x.m9,x.g4,x.R.same s,x.r1⟩
def supL(a:∅)(z s:Int):∅:=a.set z.toNat (1*2^(s-1).toNat)
noncomputable def lfP (h w g:Int) (PP:List RR) (cl m:∅) (th:Tho):Bool:=alwA h w g PP cl m th.t th.r th.z th.s th.ms
def Dq{m:∅}{z s:Int}:(supL m z s).length=m.length:=by unfold supL;rw[SZ]
abbrev supS:Str:=tx [115,117,112,112,111,115,101]
def jc(K:Frag):Sp:=#[3,∃ T M a r z s,vs=[.ref T]/\H T=some (.tup [.str a,.int r,.int z,.int s,.ref M])/\Q (.bl true) H]
def mw(K:Frag):TS:=#[":jGn/a0ad-'eebscnxa0edf#5 "]
def At(h:jc K vs H Q E):mw K (eD9 Q) (start ["thought"] vs) H:=by
 obtain⟨T,M,a,r,z,s,rfl,X,q⟩:=h;exists mw;refine Cu X ?_;symm;rw[Co X];exact q
def gm(K:Frag):Sp:=#[3,∃ T M a r z s,vs=[.ref T]/\H T=some (.tup [.str a,.int r,.int z,.int s,.ref M])/\Q (.bl (decide (a=supS))) H]
def jx(K:Frag):TS:=#[":jG,'Pca0ebscbi0df#0 dqr`0",[115,117,112,112,111,115,101]]
def wl(h:gm K vs H Q E):jx K (eD9 Q) (start ["thought"] vs) H:=by
 obtain⟨T,M,a,r,z,s,rfl,X,q⟩:=h;exists jx;refine⟨T,M,a,r,z,s,rfl,X,?_⟩;exists ixT X (v:=V.str a) rfl ?_;symm;exact q
def qC(K:Frag):Sp:=#[3,∃ A ms z s,vs=[.ref A,.int z,.int s]/\H A=↥(ms.map V.int)/\ms.length<=900/\0<=z/\1<=s/\s<=6/\∀ l H',Same H H'->H l=none->H' l=↥((supL ms z s).map V.int)->Q (.ref l) H']
def qD(K:Frag):TS:=#[":jz&---12 ~Lca0e?c#2 Mh#1 Mh#2 [H~mmbsc13,'Hca4e2"]
def EB(h:qC K vs H Q E):qD K (eD9 Q) (start ["masks","cell","sign"] vs) H:=by
 obtain⟨p,ms,z,s,rfl,f,r,y,o,v,k⟩:=h;exists qD;refine⟨p,rfl,⟨_,Qh f⟩,?_⟩;refine sk (xs:=ms.map V.int) (λ_=>true) (λi=>.int (if (i:Int)=z then 2^(s-1).toNat else ms.getD i 0)) (by rw[P0];exact r) #[1] (Qh f) ?_ ?_ ?_
 . intro i x b R g d k1;exact k1 _ (P2 _)
 . intro i x b n g w d k1;obtain⟨m,j,rfl⟩:=bj g;have q:=k1 _ (P2 b);rw[ja j]at q;show tIf _ _ _ [none,⇑i,⇑m,⇑z,⇑s] b n;symm;by_cases c:(i:Int)=z
   . rw[Qt c]at q;rw[P4 c];exact iteT ⟨s,rfl,o,by omega,q⟩
   . rw[Qp c]at q;rw[P3 c];exact iteF q
 . intro l b t d u;refine k l b d t ?_;rw[u,bq,P0]
   congr 2
   refine Rp λi=>?_;rw[P5,P5];unfold supL;rw[List.getElem?_set];rcases Ui i ms.length with a | a
   . rw[Ra a];by_cases e:z.toNat=i
     . rw[Qt e,Qt #[0],T8];show some (V.int (if (i:Int)=z then 2^(s-1).toNat else ms.getD i 0))=_;rw[Qt #[0]];rfl
     . rw[Qp e];show some (V.int (if (i:Int)=z then 2^(s-1).toNat else ms.getD i 0))=_;rw[Qp #[0],List.getD,P1 a];rfl
   . rw[Qr (by rw[QU];exact a)];by_cases e:z.toNat=i
     . rw[Qt e,Qp #[0]];rfl
     . rw[Qp e,Qr a];rfl
structure XD(K:Frag)(C D f:Addr):Prop where
 is:XIs K C
 oC:∃ nm q N bs sn sub ab col dd k0 k1 k2 k3 k5,K.lookup C=some (excClassObj nm q C N bs (.ref D::VE) true sn sub ab col dd k0 k1 k2 k3 k5 "ValueError.__new__")
 oD:∃ c0 dd cd sl,K.lookup D=some ⟨c0,dd,.cls cd,sl⟩/\uu K cd.ns=true
 ini:findIn K (.ref C) "__init__"=some ↑f
 fn:isFn K (.ref f)=true
 kp:keepIn K (.ref C)=true
 sa:findIn K (.ref C) "__setattr__"=some (some (.builtin "object.__setattr__"))
section
variable{prog:Program}{w:World}{A:Around}{E:Value->Shared->Prop}{h:Heap}{g:Array GenState}{d:Drawn}{t:Nat}{os:OsState}{K:Frag}{C D f:Addr}
def Fk(Z:XD K C D f)(X:K.In h):OwnTail h VE (.ref D::VE):=by
 obtain⟨g,k,e,i,c,d⟩:=Z.oD;obtain⟨j,b,a⟩:=Hr X d;exact .own (X _ _ c) b a .base
def Dr (Z:XD K C D f) (X:K.In h) {rest:List Value} {Q:Fin->Shared->Prop}
  (y:∀ h' e,Heap.MadeExcOf h h' e (.ref C) rest->h.objs.size<=e->
   wpAny (model prog w) A (call (.ref f) (.ref e::rest)) (λr s'=>r=.none/\Q (.done (.ret (.ref e))) s') E ⟨h',g,d,t,os⟩) (c:rest.length<=sizeLine):
  wpAny (model prog w) A (Builtin.«type.__call__» ⟨.ref C::rest,[]⟩) Q E ⟨h,g,d,t,os⟩:=by
 have T:=Fk Z X;obtain⟨H,q,L,J,I,u,G,s,B,k0,k1,k2,k3,k5,v⟩:=Z.oC;have i:=X _ _ v;have j:=F.excBase_ValueError
 repeat (first | with_reducible refine QL i ?_ | with_reducible refine wpAny_madeBy_exc i ?_ | wp_step)
 refine codeAny_call_builtin_code (Th _ j.quiet) (wpAny_check_new_subU j (by decide+kernel) T i ?_);refine codeAny_exc_new_subU j (by decide+kernel) j T i ?_ c;show wpAny _ _ _ _ _ _;have k:∀ b o,h.get? b=some o->((h.push {cls:=.type "tuple",data:=.seq rest.toArray}).push {cls:=.ref C,data:=.fields #[.ref h.objs.size,.none,.none,.none,.bool false,.none]}).get? b=some o:=λb o e=>Qb _ (Qb _ e);have n:=X.keeps k;have m:=k _ _ i
 have a:((h.push {cls:=.type "tuple",data:=.seq rest.toArray}).push
   {cls:=.ref C,data:=.fields #[.ref h.objs.size,.none,.none,.none,.bool false,.none]}).get? (h.objs.size+1)=some
   {cls:=.ref C,data:=.fields #[.ref h.objs.size,.none,.none,.none,.bool false,.none]}:=by heap_get
 have l:(Value.ref C::.ref D::VE).contains (.ref C)=true:=by simp
 unfold isInstance
 repeat (first | with_reducible refine QL a ?_ | (with_reducible refine wpAny_isSubtype_exc m ?_;rw[l]) | wp_step)
 show wpAny _ _ (typeLookup (.ref C) _) _ _ _;refine(Q7 (M:=model prog w) n Z.ini).at ?_;refine SS (Qq ((PySem.W.bind_fn n _ (RV.mp Z.fn)).here ?_));refine Qq (QX (y _ (h.objs.size+1) ⟨k,RM (R5 _),h.objs.size,a,RM (Qd _),?_⟩ (R5 _)) (λr s' z=>?_) λ_ _ x=>x)
 . exact Qb _ (Heap.get?_push_at rfl rfl)
 . obtain⟨rfl,p⟩:=z
   wp_walk
   exact p
def LI (Z:XD K C D f) (X:K.In h) {rest:List Value} {Q:Value->Shared->Prop}
  (c:∀ h' e,Heap.MadeExcOf h h' e (.ref C) rest->h.objs.size<=e->
   wpAny (model prog w) (A.under (.builtin "type.__call__" ⟨.ref C::rest,[]⟩)) (call (.ref f) (.ref e::rest)) (λr s'=>r=.none/\Q (.ref e) s') E ⟨h',g,d,t,os⟩) (a:rest.length<=sizeLine):
  wpAny (model prog w) A (call (.ref C) rest) Q E ⟨h,g,d,t,os⟩:=by
 obtain⟨y,q,s,z,u,l,x,j,n,k0,k1,k2,k3,k5,k⟩:=Z.oC;have b:=X _ _ k;have v:=tc_lookup;have o:=tc_bind (.ref C);have p:(⟨h,g,d,t,os⟩:Shared).TypeIs (.ref C) "type":=⟨_,b,rfl⟩;refine Td (codeAny_of_tree ?_);show wpAny _ _ (callAny (.ref C) _) _ _ _
 repeat (any_goals (first | assumption | with_reducible refine QL b ?_ | wp_step))
 refine⟨rfl,?_⟩;exact codeAny_call_builtin_at (Th _ (by decide+kernel)) entry_typeCall (wpAny_check_type_call_sub b (Dr Z X (λh' e m i=>c h' e m i) a))
abbrev xob(C:Addr)(dx:Option Addr)(t:Addr):Obj:={cls:=.ref C,dict:=dx,data:=.fields #[.ref t,.none,.none,.none,.bool false,.none]}
def Jn {M:Model} {s:Shared} {env:Env} {x:Sem Value} {Q:Flow->Shared->Prop} (Z:XD K C D f) (n:A.handled=none)
  (h:wpAny M A x (λv a=>∃ e dx t,v=.ref e/\K.In a.heap/\a.heap.get? e=some (xob C dx t)/\E (.ref e) a) E s):
  wpAny M A (raiseStmt env (some x) none) Q E s:=by
 unfold raiseStmt;refine Qq (QX h (λv a k=>?_) λ_ _ x=>x);obtain⟨e,dx,t,rfl,X,m,o⟩:=k;obtain⟨y,g,d,w,os⟩:=a;have j:=qX (M:=M) X Z.is.mb;obtain⟨u,q,F,B,z,c,r,b,p,k0,k1,k2,k3,k5,i⟩:=Z.oC;have l:=X _ _ i
 repeat (first | with_reducible refine QL m ?_ | with_reducible refine QL l ?_ | with_reducible refine j.at ?_ | wp_step)
 exact wpAny_raiseNew_none n o
def Jo (Z:XD K C D f) (X:K.In h) {x n:Addr} {v:Value} {Q:Value->Shared->Prop} (c:h.get? x=some (xob C none n))
  (i:∀ h' t',(∀ b o,b≠x->h.get? b=some o->h'.get? b=some o)->h'.get? x=some (xob C none t')->Q .none ⟨h',g,d,t,os⟩):
  wpAny (model prog w) A (call (.builtin "ValueError.__init__") [.ref x,v]) Q E ⟨h,g,d,t,os⟩:=by
 have T:=Fk Z X;obtain⟨z,q,s,B,u,m,y,k,r,k0,k1,k2,k3,k5,l⟩:=Z.oC;have p:=X _ _ l;have a:=F.excBase_ValueError;refine Td (RT a.init.plain a.initEntry (wpAny_check_init_subU a T p c rfl ?_))
 wp_walk
 refine i _ h.objs.size (λb o j e=>?_) ?_
 . rw[Sx _ _ (S3 j)];exact Qb _ e
 . rw[SE _ (Qb _ c) rfl];rfl
def Gj (Z:XD K C D f) (X:K.In h) {x B:Addr} {v:Value} {name:Str} {H:Tok} {Q:Fin->Shared->Prop} (P:findIn K (.ref C) name=some none) (m:h.get? x=some (xob C none B))
  (T:∀ h' dx n,h.objs.size<=dx->(∀ b o,b≠x->h.get? b=some o->h'.get? b=some o)->h'.get? x=some (xob C (some dx) B)->h'.Ns1 dx (λy=>if y=name then some v else none)->Q (.done (.ret .none)) ⟨h',g,d,n,os⟩):
  wpAny (model prog w) A (Builtin.«object.__setattr__» ⟨[.ref x,.str name H,v],[]⟩) Q E ⟨h,g,d,t,os⟩:=by
 obtain⟨nm,q,Nc,bs,sn,O,ab,L,dd,k0,k1,k2,k3,k5,R⟩:=Z.oC;have U:=X _ _ R;have i:=Tl.passes (.ref x);have S:=Q7 (M:=model prog w) X P;unfold Builtin.«object.__setattr__»;obtain⟨o,eo⟩:∃ o,o=xob C none B:=⟨_,rfl⟩;rw[← eo]at m;have N:o.cls=.ref C:=by rw[eo]
 have p:o.dict=none:=by rw[eo]
 repeat (first | rw[refuse_eq] | (rw[refuseLoop_ref,refuseLoop_ref,i]) | (with_reducible refine QL m ?_;rw[N]) | with_reducible refine wpAny_mroOf_exc U ?_ | with_reducible refine S.at ?_ | wp_step)
 rw[p,Qp (by simp[typeHasDict])]
 split
 . rename_i a
   cases a
 split
 . rename_i c a
   rw[eo]at a;cases a
 have k:(h.push {cls:=.type "dict",data:=.dict #[]}).get? x=some o:=Qb _ m;have j:x≠h.objs.size:=QH (Qo m);refine Qq (wpAny_alloc' (Qq (wpAny_update' k (QN ?_))))
 have u:((h.push {cls:=.type "dict",data:=.dict #[]}).update x λo=>{cls:=o.cls,dict:=some h.objs.size,data:=o.data,slots:=o.slots}).get? h.objs.size
   =some {cls:=.type "dict",data:=.dict #[]}:=(Heap.get?_update_ne _ _ _ _ j.symm).trans (Heap.get?_push_at rfl rfl)
 have s:((h.push {cls:=.type "dict",data:=.dict #[]}).update x λo=>{cls:=o.cls,dict:=some h.objs.size,data:=o.data,slots:=o.slots}).Ns h.objs.size (λ_=>none):=
  ⟨_,#[],_,u,rfl,λe W=>absurd W (by simp),λ_=>rfl⟩
 show wpAny _ _ (Builtin.ObjectAttr.storeInDict h.objs.size (.str name H) name v) _ _ _;unfold Builtin.ObjectAttr.storeInDict Builtin.ObjectAttr.newKeyGuard;refine Qq (QN (Qq (wpAny_nsSet1 (Heap.Ns1.of_empty s) λh' l J=>?_)));obtain⟨oD,Y,ac,F,z,G⟩:=l.count (Within.cons name v Within.nil);refine Qq (wpAny_lookBehind F (by rw[z];exact pastItsLine_dict (Qa G (by rw[QC,TW,To];omega))) ?_)
 wp_walk
 refine T h' h.objs.size _ (Qd _) (λb ob r I=>?_) ?_ l
 . exact(J.2 b (QH (Qo I))).trans ((Heap.get?_update_ne _ _ _ _ r).trans (Qb _ I))
 . refine(J.2 x j).trans ((SE _ k ?_).trans ?_)
   . rw[eo];rfl
   . rw[eo]
def Gk{M:Model}(Z:XD K C D f)(X:K.In h){x e:Addr}{v a:Value}{dx:Option Addr}{Q:Unit->Shared->Prop}(j:h.get? x=some (xob C dx e))(c:Q () ⟨h,g,d,t,os⟩):
  wpAny M A (checkBuiltinCall "object.__setattr__" ⟨[.ref x,a,v],[]⟩) Q E ⟨h,g,d,t,os⟩:=by
 have b:=Tl;have i:=qX (M:=M) X Z.is.mo;have k:=b.args (.ref x) a v;simp only[checkBuiltinCall,b.kind,b.split];refine Qq ?_;unfold isInstance
 repeat (first | (with_reducible refine QL j ?_) | with_reducible refine i.at ?_ | wp_step)
 exact c
def LJ (Z:XD K C D f) (X:K.In h) {x e:Addr} {v:Value} {name:Str} {Q:Unit->Shared->Prop} (l:findIn K (.ref C) name=some none) (i:h.get? x=some (xob C none e))
  (m:∀ h' dx a,h.objs.size<=dx->(∀ b o,b≠x->h.get? b=some o->h'.get? b=some o)->h'.get? x=some (xob C (some dx) e)->h'.Ns1 dx (λy=>if y=name then some v else none)->Q () ⟨h',g,d,a,os⟩):
  wpAny (model prog w) A (setAttr (.ref x) name v) Q E ⟨h,g,d,t,os⟩:=by
 have c:=Tl;have r:=c.slot.bind (.ref x);have q:=Q7 (M:=model prog w) X Z.sa;have u:=λ(M:Model)=>qX (M:=M) X Z.is.mo;have s:(xob C none e).cls=.ref C:=rfl;unfold setAttr callSpecial? specialOf
 repeat (any_goals (first | assumption | (with_reducible refine QL i ?_) | with_reducible refine q.at ?_ | wp_step))
 refine RT c.slot.plain c.entry (Gk Z X i (Gj Z X l i λh' dx a n j k p=>?_))
 repeat (any_goals (first | assumption | wp_step))
 exact m h' dx a n j k p
def Jp {a dx l:Addr} {o:Obj} {vs:Array Value} {e:Str->Option Value} {name:Str} {m:Tok} {Q:Fin->Shared->Prop} (X:K.In h) (Z:XD K C D f) (n:findIn K (.ref C) name=some none) (c:h.get? a=some o) (b:o.cls=.ref C) (p:o.data=.fields vs) (x:o.dict=some dx) (r:h.Ns dx e) (i:e name=↑l)
  (F:Q (.done (.ret (.ref l))) ⟨h,g,d,t,os⟩):
  wpAny (model prog w) A (Builtin.«object.__getattribute__» ⟨[.ref a,.str name m],[]⟩) Q E ⟨h,g,d,t,os⟩:=by
 have u:=Q7 (M:=model prog w) X n;unfold Builtin.«object.__getattribute__»
 repeat (any_goals (first | assumption | (with_reducible refine QL c ?_;rw[b]) | with_reducible refine u.at ?_ | wp_step))
 rw[p];unfold instanceDict;obtain⟨B,q,I,G,H,k,z,j,y,k0,k1,k2,k3,k5,s⟩:=Z.oC;have v:=X _ _ s
 repeat (any_goals (first | assumption | (with_reducible refine QL c ?_;rw[x,b]) | with_reducible refine QL v ?_ | (with_reducible refine wpAny_nsGet r ?_;rw[i]) | wp_step))
def Mi {a dx l:Addr} {o:Obj} {vs:Array Value} {k:Str->Option Value} {name:Str} {m:Tok} {c b:Bool} {Q:Value->Shared->Prop} (X:K.In h) (Z:XD K C D f) (q:findIn K (.ref C) name=some none) (j:h.get? a=some o) (e:o.cls=.ref C) (r:o.data=.fields vs) (v:o.dict=some dx) (u:h.Ns dx k) (s:k name=↑l)
  (B:Q (.ref l) ⟨h,g,d,t,os⟩):
  wpAny (model prog w) A (getAttrBy (.ref a) (.str name m) c b) Q E ⟨h,g,d,t,os⟩:=by
 have z:=Sz.ga.bind (.ref a);have n:(b&&onTheHeap (Value.builtin "BaseException.__getattribute__"))=false:=by cases b <;> rfl
 have i:(Value.builtin "BaseException.__getattribute__"==Value.builtin "object.__getattribute__")=false:=by decide+kernel
 have p:(onTheHeap (Value.ref C)&&Value.builtin "BaseException.__getattribute__"==Value.builtin "object.__getattribute__")=false:=by rw[i];rfl
 have y:=Q7 (M:=model prog w) X Z.is.ga;have x:=Q7 (M:=model prog w) X Z.is.gx
 repeat (any_goals (first | assumption | (with_reducible refine QL j ?_;rw[e]) | with_reducible refine y.at ?_ | with_reducible refine x.at ?_ | wp_step))
 refine RT Sz.ga.plain F.entry_bexc_ga (E3 X Z.is j e (Jp X Z q j e r v u s ?_))
 repeat (any_goals (first | assumption | wp_step))
def Kr {a dx l:Addr} {o:Obj} {vs:Array Value} {c:Str->Option Value} {name:Str} {b:Bool} {Q:Value->Shared->Prop} (X:K.In h) (Z:XD K C D f) (e:findIn K (.ref C) name=some none) (p:h.get? a=some o) (n:o.cls=.ref C) (i:o.data=.fields vs) (m:o.dict=some dx) (k:h.Ns dx c) (j:c name=↑l)
  (q:Q (.ref l) ⟨h,g,d,t+1,os⟩):wpAny (model prog w) A (getAttr (.ref a) name b) Q E ⟨h,g,d,t,os⟩:=by
 unfold getAttr
 repeat (any_goals (first | assumption | with_reducible apply Mi X Z e p n i m k j | wp_step))
end
def XQ(x C:Addr)(dx:Option Addr):Heap->Prop:=λh=>∃ t,h.get? x=some (xob C dx t)
def Gm{P:Program}{w:World}{H:Hp}{h:Heap}{x C t:Addr}{dx:Option Addr}(e:h.get? x=some (xob C dx t)):ObjOk P w H h x (.ext (XQ x C dx)):=⟨⟨t,e⟩,⟨_,e⟩,λ_ _ ⟨t,q⟩ k=>⟨t,k _ q⟩⟩
def LK{H:Hp}{a:Addr}{o:HO}(e:H a=some o):upd H a o=H:=by
 funext b
 unfold upd
 split
 . rename_i z;rw[z];exact e.symm
 . rfl
structure XI(K:Frag)(D:Addr):Prop where
 rd:PySem.W.readsIn K D (.type "type")=true
 ga:PySem.W.specialIn K (.ref D) "__getattribute__"=some (some (.builtin "type.__getattribute__"))
 fi:PySem.W.findCls K (.ref D) (.type "type") "__init__"=some (.val (.builtin "ValueError.__init__"))
def tXini(C:Addr)(t:TA):TE:=λσ H Q=>t σ H λvs a=>∃ x v,vs=[.ref x,v]/\a x=some (.ext (XQ x C none))/\Q .non a
def sXset(C:Addr)(d e:TE)(f:Str):TS:=λD σ H=>e σ H λy g=>d σ g λx c=>∃ a,x=.ref a/\c a=some (.ext (XQ a C none))/\∀ b,c b=none->D.nx σ (upd (upd c b (.xd [(f,y)])) a (.ext (XQ a C (some b))))
def tXat(K:Frag)(c:TE)(f:Str):TE:=λσ H Q=>c σ H λv a=>∃ x C d b l,v=.ref x/\a x=some (.ext (XO x C (some d)))/\a d=some (.xd b)/\b.lookup f=↑l/\(∃ D g,XD K C D g)/\findIn K (.ref C) f=some none/\Q (.ref l) a
section
variable{X:Cx}{C D fI:Addr}{o e value:Expr}{es:List Expr}{f x:Str}{p pos apos pos':Pos}{ta tv:TE}{t:TA}
def Ks {pl:Sem Bool} (Z:XD X.K C D fI) (Y:XI X.K D) (u:Gl X x) (F:X.mg x=↑D) (N:PA X (e::es) t) (j:(x==("__debug__":Str))=false:=by decide)
  (i:starEach (e::es) X.env=(false,eval e X.env)::starEach es X.env:=by rfl) (b:(backTo pos (starEach es X.env)).any (·.1)=false:=by rfl)
  (w:eval (.Call (.Attribute (.Name x p) "__init__" apos) (e::es) [] pos) X.env=(do
   let ov ← eval (.Name x p) X.env
   standAt apos.atName
   let (f,first) ← holding [ov] (getMethod ov "__init__" pl)
   callWith pos f first (backTo pos (starEach (e::es) X.env)) (backToKw pos (keywordEach [] X.env))):=by rfl):
  PE X (.Call (.Attribute (.Name x p) "__init__" apos) (e::es) [] pos) (tXini C t):=by
 intro G s σ H Q I h;refine SH (pl:=pl) (lY I u F ?_ j) w;refine PySem.W.method_cls I.kIn Y.ga (PySem.W.cls_value I.kIn Y.rd Y.fi (by decide+kernel) ?_);have n:=N pos G {s with toks:=s.toks+1} σ H _ (I.tok _) h;rw[i]at n ⊢;refine PySem.W.callWith_of (P:=λ_=>True) (by show((false||(backTo pos (starEach es X.env)).any (·.1))||false)=false;rw[b];rfl) (λ_ _=>⟨.machine,.inr (.inl rfl),.now⟩) (Calls.evalArgs_plain (thn n λS M ⟨vs,L,c,r,y,v,J,l,q⟩=>⟨True.intro,?_⟩));subst J;obtain⟨T,u2,rfl,E,R⟩:=vJ r;cases E;obtain⟨⟨t0,A⟩,_⟩:=c.hok y _ l;obtain⟨hh,g,d,B,U⟩:=M;refine Jo Z c.kIn A λm O k a=>⟨.non,L,?_,rfl,q⟩;have z:=c.write (x:=y) (e:=y) (o:=.ext (XQ y C none)) (h':=m) (t':=B) (by rw[l];trivial) (.inl rfl) k ⟨_,a⟩ (Gm a)
 rwa [LK l]at z
def Kt(Z:XD X.K C D fI)(na:findIn X.K (.ref C) f=some none)(ha:PE X o ta)(R:PE X value tv)(hs:swapsWith value (some (.Attribute o f pos')) pos.line X.env=pure false:=by rfl):PS X (.Assign [.Attribute o f pos'] value pos) (sXset C ta tv f):=by
 intro N s σ H D' I h;refine SB (thn (R N s σ H _ I h) λu s1 ⟨y,H1,Q,Y,q⟩=>thn (ha N s1 σ H1 _ Q q) λov s2 ⟨x,F,l,T,a,U,t,q2⟩=>?_) hs;subst U;obtain rfl:ov=Value.ref a:=T;obtain⟨⟨t0,W⟩,_⟩:=l.hok a _ t;obtain⟨hh,g,d,tk,os⟩:=s2;refine LJ Z l.kIn na W λM i G O B L S=>?_;have E:F i=none:=l.hok.fresh O;have ne:i≠a:=λz=>by rw[z,t]at E;cases E
 have P:∀ b o,hh.get? b=some o->b≠i:=λb o e=>QH (Qv (Qo e) O);have j:∀ b,F b=none->b≠a:=λb n z=>by rw[z,t]at n;cases n
 have w:∀ b u,F b=some u->(∀ φ,u≠.ext φ)->upd (upd F i (.xd [(f,y)])) a (.ext (XQ a C (some i))) b=some u:=λb u e n=>by
  rw[ap λz=>by rw[z,t]at e;cases e;exact n _ rfl,ap (aD e E)];exact e
 refine⟨σ,_,l.call (ch:=[]) (h':=M) (g':=g) (d':=d) (t':=G) ⟨λb o e n _ _=>B b o (j b n) e,λb o e n _ _=>⟨o.slots,B b o (j b n) e⟩,λb o e n _=>?_,λb o e _=>?_,λb xs e=>w b _ e (λ_ z=>by cases z),λb o u e=>w b _ e (λ_ z=>by cases z),λb ps e=>⟨#[],by rw[w b _ e (λ_ z=>by cases z)];simp⟩⟩ (λb u e=>?_) l.bare λb z=>absurd z (by simp),q2 i E⟩
 . rw[ap (j b n),ap (P b o e)];exact n
 . by_cases m:b=a
   . rw[m];exact⟨_,L⟩
   . exact⟨o,B b o m e⟩
 . by_cases m:b=a
   . subst m;rw[ai]at e;cases e;exact Gm L
   . rw[ap m]at e;by_cases p:b=i
     . subst p;rw[ai]at e;cases e;refine⟨_,S,λk=>?_⟩;by_cases J:k=f
       . subst J;simp[List.lookup];exact Y
       . have:(k==f)=false:=by simpa using J
         simp[List.lookup,this,J];trivial
     . rw[ap p]at e;refine(l.hok b u e).stay (λc v A r=>B c v ?_ r) (λc r=>w c _ r (λ_ z=>by cases z)) λc xs r=>w c _ r (λ_ z=>by cases z);rcases A with rfl | A
       . exact m
       . rintro rfl;rw[t]at A;cases A
def Id(J:PE X e ta)(w:attributeBase e f X.env (eval e X.env)=eval e X.env:=by rfl):PE X (.Attribute e f pos) (tXat X.K ta f):=by
 intro E s σ H Q I h;refine EU w (thn (J E s σ H _ I h) λu G ⟨x,A,b,m,a,C,d,M,l,n,t,L,i,⟨D,g,Z⟩,v,q⟩=>?_);subst n;obtain rfl:u=Value.ref a:=m;obtain⟨⟨o,vs,p,k,y,F⟩,_⟩:=b.hok a _ t;obtain⟨c,B,r⟩:=b.hok d _ L
 have j:c f=↑l:=by
  have z:=r f;rw[i]at z
  cases q:c f with
  | none=>rw[q]at z;cases z
  | some u=>rw[q]at z;cases z;rfl
 obtain⟨R,g,P,N,O⟩:=G;exact Kr b.kIn Z v p k y (F d rfl) B.ns j ⟨.ref l,A,b.tok _,rfl,q⟩
end
def spXI(C:Addr)(f:Str):Sp:=#[3,∃ x a xs,vs=[.ref x,.ref a]/\H x=some (.ext (XQ x C none))/\H a=↥xs/\
 ∀ l b,H l=none->H b=none->l≠b->Q .non (upd (upd (upd H l (.lst xs)) b (.xd [(f,.ref l)])) x (.ext (XQ x C (some b))))]
def rf(E:XK)(C:Addr)(f:Str)(t:TA):TS:=λ_ σ H=>t σ H λvs c=>∃ a xs,vs=[.ref a]/\c a=↥xs/\
 ∀ l d H',c l=none->c d=none->H' l=↥xs->H' d=some (.xd [(f,.ref l)])->(∀ b o,c b=some o->H' b=some o)->E (.ref C) (some d) H'
section
variable{P:Program}{w:World}{K:Frag}{mg:Str->Option Value}{base:Heap}{N:List Str}{qual:Str}{scope:Scope}{f:Addr}{cd:Value}{A:Around}{outer:List Env}{s₀:Shared}{H₀:Hp}{E:XK}
def Ie {PN:List (Addr × Obj)} {σ:St} {H a:Hp} {s s':Shared} {h1:Heap} {x C dx:Addr} {o3:HO} (I:Inv (cx1 P w K mg base N qual scope f cd A outer s₀ H₀ E) PN σ H s) (O:s.heap.objs.size<=x) (kp:∀ b o,s.heap.get? b=some o->h1.get? b=some o)
  (G:s'.os=s.os) (l:AllBare s'.gens) (un:Un (frs (envOfC qual scope s₀.heap.objs.size f cd::outer)) [] (upd H x o3) a h1 s'.heap) (B:HOk P w a s'.heap) (h3:a x=some (.ext (XQ x C (some dx)))) (q:E (.ref C) (some dx) λb=>if b=x then none else a b):
  (∃ t,s'.heap.get? x=some (xob C (some dx) t))/\(cx1 P w K mg base N qual scope f cd A outer s₀ H₀ E).xe (.ref x) s':=by
 obtain⟨⟨t,v⟩,_⟩:=B x _ h3;refine⟨⟨t,v⟩,?_⟩;have T:H x=none:=I.hok.fresh O;have nx:s.heap.get? x=none:=RM O
 have y:∀ b u,a b=some u->(∀ φ,u≠.ext φ)->(λb=>if b=x then none else a b) b=some u:=λb u e n=>by
  show(if b=x then none else a b)=_;rw[Qp λz=>by rw[z,h3]at e;cases e;exact n _ rfl];exact e
 have k:Un (frs (envOfC qual scope s₀.heap.objs.size f cd::outer)) [] H a s.heap s'.heap:=(Un.laid kp O T).trans un
 have Z:Un (frs (envOfC qual scope s₀.heap.objs.size f cd::outer)) [] H (λb=>if b=x then none else a b) s.heap s'.heap:=
  ⟨k.keep,k.slot,λb o e n z=>by show(if b=x then none else a b)=none;split;rfl;exact k.free b o e n z,k.there,λb xs e=>y b _ (k.tups b xs e) (λ_ z=>by cases z),λb o u e=>y b _ (k.frzs b o u e) (λ_ z=>by cases z),λb ps e=>by
   obtain⟨m,z⟩:=k.tbls b ps e;exact⟨m,y b _ z (λ_ z=>by cases z)⟩⟩
 have D:HOk P w (λb=>if b=x then none else a b) s'.heap:=λb u e=>by
  have e':a b=some u:=by
   have e:(if b=x then none else a b)=some u:=e
   split at e
   . cases e
   . exact e
  exact(B b u e').stay (λ_ _ _ r=>r) (λc r=>y c _ r (λ_ z=>by cases z)) λc xs r=>y c _ r (λ_ z=>by cases z)
 have j:∀ b∈frs (envOfC qual scope s₀.heap.objs.size f cd::outer),H b=none:=I.stkFree;have ff:s'.heap.FunFrames base (envOfC qual scope s₀.heap.objs.size f cd::outer):=Ab I.stack (λb i=>⟨i,j b i⟩) Z;show wpAny (model P w) (A.deeper (envOfC qual scope s₀.heap.objs.size f cd)) («leaving» (envOfC qual scope s₀.heap.objs.size f cd) (.ref x)) _ _ s';have M:∀ b∈frs (envOfC qual scope s₀.heap.objs.size f cd::outer),b∈frs (envOfC qual scope s₀.heap.objs.size f cd::outer)++[x]:=λb i=>RN _ i;refine(CB _ _).any (wpAny_leaving_firstW (Q:=λ_ sN=>∃ p,sN={s' with heap:=p}/\Heap.LeftW (PySem.W.hideAll s'.heap (frs (envOfC qual scope s₀.heap.objs.size f cd::outer)++[x])) (envOfC qual scope s₀.heap.objs.size f cd::outer) x (.ref C) (.ref t) s'.heap p) (a0:=.ref t) (L:=s₀.heap.objs.size) I.ok.frames (xo ff M) rfl v (λb o e=>S9 _ e) (RL _ (by simp)) rfl rfl rfl λp hL=>⟨p,rfl,hL⟩) ?_;rintro _ _ ⟨p,rfl,k1,_,⟨R,F,X,S,J,a1,Y,a3,a4,U,a6,a7,a8,a9⟩,up⟩ dk;have g:∀ b o,s'.heap.get? b=some o->b∉frs (envOfC qual scope s₀.heap.objs.size f cd::outer)->b∉[x]->p.get? b=some o:=λb o e i v=>k1 b o (Sj _ e λz=>(QD.mp z).elim i v);refine⟨x,X,C,some dx,_,rfl,IR (env:=envOfC qual scope s₀.heap.objs.size f cd) (base:=base) (s:=s) (sA:=s') (L:=s₀.heap.objs.size) (ex:=[x]) (G.trans I.os) l rfl (RM (Qd _)) I.base I.stack j Z D (λb i=>?_) g up nx (Qt rfl) (λo e=>?_) ⟨R,F,S,J,_,a1,Y.1,Y.2,a3,a4,a6,a7,a8,a9⟩,(DX.dk (h:=s'.heap) (λd e=>⟨_,v,e⟩) dk),q⟩
 . simp only[Qs,Rf,Sn]at i;subst i;exact⟨nx,Qt rfl⟩
 . by_cases z:X∈frs (envOfC qual scope s₀.heap.objs.size f cd::outer)++[x]
   . exact QD.mp z
   . rw[Sj _ e z]at U;cases U
structure XCal(P:Program)(w:World)(K:Frag)(mg:Str->Option Value)(base:Heap)(k:Nat)(x:Str)(C:Addr)(ps:List Str)(fn:Str):Prop where
 ex:∃(D fI:Addr) (fd:FuncData),XD K C D fI/\FnOk P w K mg base CX0 k fI fd ps (spXI C fn)/\mg x=↑C/\Binds K fd ps []
def A5 {C:Addr} {k n:Nat} {x:Str} {ps:List Str} {fn:Str} {np i pos:Pos} {Y:Expr} {rest:List Expr} {t:TA} (Z:XCal P w K mg base k x C ps fn) (hr:Room n (cx1 P w K mg base N qual scope f cd A outer s₀ H₀ E).A) (hk:k+1<=n) (hg:Gl (cx1 P w K mg base N qual scope f cd A outer s₀ H₀ E) x)
  (ha:PA (cx1 P w K mg base N qual scope f cd A outer s₀ H₀ E) (Y::rest) t) (ac:(x==("__debug__":Str))=false:=by decide)
  (he:starEach (Y::rest) (envOfC qual scope s₀.heap.objs.size f cd)=(false,eval Y (envOfC qual scope s₀.heap.objs.size f cd))::starEach rest (envOfC qual scope s₀.heap.objs.size f cd):=by rfl)
  (m:(backTo i (starEach rest (envOfC qual scope s₀.heap.objs.size f cd))).any (·.1)=false:=by rfl):
  PS (cx1 P w K mg base N qual scope f cd A outer s₀ H₀ E) (.Raise (some (.Call (.Name x np) (Y::rest) [] i)) none pos) (rf E C fn t):=by
 intro PN s σ H D' I h;obtain⟨D,fI,fd,Z,Fi,hm,hb⟩:=Z.ex;rw[arm_exec_Raise];refine Qq (ST (Jn Z (I.ok.hd rfl) ?_));simp only[evalOpt,Option.map];refine Qq (QX ?_ (λv s₃ h₃=>Qq (ST (QN h₃))) λ_ _ x=>x);refine Rm (lY I hg hm ?_ ac);refine R7 (h₀:=base) I.ok.mod.kin Z.kp (thn (ha i PN s σ H _ I h) λus s1 ⟨vs,L,G,r,a,xs,ev,X,q⟩=>⟨G.kIn,?_⟩) he m;subst ev;obtain⟨u,rfl,ru⟩:=eP r;cases ru;obtain⟨hh,g,d,tk,os⟩:=s1;refine LI Z G.kIn (λh' y B hl=>?_) (by show 1<=sizeLine;decide);obtain⟨t0,hx,_⟩:=B.there;have M:L y=none:=G.hok.fresh hl;have I2:=G.laid (a:=y) (o:=.ext (XQ y C none)) (h':=h') (t':=tk) B.keeps hl (Gm hx);have U:a≠y:=λz=>by rw[z,M]at X;cases X
 refine Td (S5 (Fi.run _ (cx1 P w K mg base N qual scope f cd A outer s₀ H₀ E).stack _ _ ⟨[.ref y,.ref a],[]⟩ [.ref y,.ref a] [.ref y,.ref a] (λv F=>v=.non/\∃ l c,L l=none/\L c=none/\l≠y/\c≠y/\l≠c/\F=upd (upd (upd (upd L y (.ext (XQ y C none))) l (.lst xs)) c (.xd [(fn,.ref l)])) y (.ext (XQ y C (some c)))) E0
  ((hr.mono hk).make C _ []) (I2.env0.make C _ []) (by have:=hb {heap:=h',gens:=g,drawn:=d,toks:=tk,os:=os} [.ref y,.ref a] I2.kIn;rw[TX]at this;exact this (by have z:=Fi.len [.ref y,.ref a] (upd L y (.ext (XQ y C none))) (λ_ _=>True) E0 ⟨y,a,xs,rfl,ai,by rw[ap U];exact X,λ_ _ _ _ _=>True.intro⟩;exact z)) (.cons rfl (.cons rfl .nil)) ⟨y,a,xs,rfl,ai,by rw[ap U];exact X,λl c e1 e2 ne=>?_⟩) λr s' j=>?_)
 . have O:l≠y:=λz=>by rw[z,ai]at e1;cases e1
   have R:c≠y:=λz=>by rw[z,ai]at e2;cases e2
   rw[ap O]at e1;rw[ap R]at e2;exact⟨rfl,l,c,e1,e2,O,R,ne,rfl⟩
 . cases r with
   | error e=>exact False.elim j
   | ok fl=>
    cases fl with
    | ret u=>
     obtain⟨v,F,S,p,un,T,rv,ev,l,c,e1,e2,O,R,nl,W⟩:=j;subst ev;have h3:F y=some (.ext (XQ y C (some c))):=by rw[W];exact ai
     have z:=Ie (E:=E) (C:=C) (dx:=c) G hl B.keeps S p un T h3 (q l c _ e1 e2 ?_ ?_ λb o J=>?_)
     . obtain⟨⟨t1,ab⟩,z⟩:=z;exact⟨rv,y,some c,t1,rfl,(I2.after (Q:=λ_ _=>True) ⟨.non,F,S,p,un,T,(show RelV .non .none from rfl),True.intro⟩).choose_spec.choose_spec.1.kIn,ab,z⟩
     . show(if l=y then none else F l)=_;rw[Qp O,W,ap O,ap nl,ai]
     . show(if c=y then none else F c)=_;rw[Qp R,W,ap R,ai]
     . show(if b=y then none else F b)=_;have nb:b≠y:=λz=>by rw[z,M]at J;cases J
       rw[Qp nb,W,ap nb,ap (aD J e2),ap (aD J e1),ap nb];exact J
    | next=>exact False.elim j
    | brk=>exact False.elim j
    | cont=>exact False.elim j
end
def tTryD(K:Frag)(sp:Sp)(t:TA)(j:Nat)(b:Value)(i:Nat)(th:TS):TS:=λD σ H=>∃ E:XK,(t σ H λvs c=>sp vs c (λv a=>D.nx (σ.set j (some v)) a) E)/\E5 true K b i E th D σ H
def Ku {X:Cx} {k R:Nat} {x:Str} {ps:List Str} {sp:Sp} {p pos:Pos} {e:Expr} {c:List Expr} {t:TA} {i j:Nat} {m n o:Str} {Q:Value} {S np g b d:Pos} {P:Stmt} {a:List Stmt} {th:TS} (G:∀ e s,X.xe e s->False) (C:Lg X.prog X.w X.K X.mg X.base k x ps sp) (hr:Room R X.A) (hk:k<=R) (B:Gl X x)
  (ha:PA X (e::c) t) (T:X.N.Nodup) (hj:X.N[j]? =some m) (l:X.env.kindOf m=some .local) (Y:X.N[i]? =some n) (r:X.env.kindOf n=some .local) (W:Gl X o) (hm:X.mg o=some Q)
  (u:X.stack=X.env::X.outer) (hf:X.env.frame=some X.env.locals) (hs:∀ x,PSs (X.caught x) (P::a) th) (z:(x==("__debug__":Str))=false:=by decide) (L:(o==("__debug__":Str))=false:=by decide)
  (he:starEach (e::c) X.env=(false,eval e X.env)::starEach c X.env:=by rfl) (q:(backTo pos (starEach c X.env)).any (·.1)=false:=by rfl) (M:swapsWith (.Call (.Name x p) (e::c) [] pos) (some (.Name m S)) b.line X.env=pure false:=by rfl):
  PS X (.Try [.Assign [.Name m S] (.Call (.Name x p) (e::c) [] pos) b] [.ExceptHandler (some (.Name o np)) (some n) (P::a) g] [] [] d) (tTryD X.K sp t j Q i th):=by
 obtain⟨f,fd,F,O,J,hb⟩:=C.ex;intro PN s σ H D I h;obtain⟨E,h1,h2⟩:=h;refine wpAny_Try_except (Tz (wpAny_Assign_Name (QX (JV E G F (hr.mono hk) B O J hb ha I h1 z he q) (λv s1 ⟨y,H1,Z,r1,q1⟩=>?_) λe s' hc=>?_) M))
 . exact rX Z T hj (.inl l) r1 (λs2 U=>Sa (Sa ⟨_,H1,U,q1⟩)) (.inr l)
 . exact Ht T Y r W hm u hf hs hc h2 L
def TU:Nat->Type
 | 0=>Tho
 | n+1=>Tho ⊕ (Int × Int × Int × List (TU n))
def zU:(n:Nat)->TU n->Int
 | 0,(th:Tho)=>th.z
 | _+1,(.inl th:Tho ⊕ _)=>th.z
 | _+1,(.inr p:Tho ⊕ _)=>p.2.1
def sU:(n:Nat)->TU n->Int
 | 0,(th:Tho)=>th.s
 | _+1,(.inl th:Tho ⊕ _)=>th.s
 | _+1,(.inr p:Tho ⊕ _)=>p.2.2.1
def onB(h w g z s:Int):Bool:=(decide (0<=z)&&decide (z<h*w))&&(decide (1<=s)&&decide (s<=g))
variable{h w g z s:Int}
def onB_iff:onB h w g z s=true↔(0<=z/\z<h*w)/\1<=s/\s<=g:=by unfold onB;simp only[Qy,P6]
section
variable{α:Type}(lf:∅->α->Option ∅)(zf sf:α->Int)(on:Int->Int->Bool)
def goF:∅->Int->List α->Option ∅
 | now,_,[]=>if (0:Int)∈now then none else some []
 | now,k,x::xs=>if (0:Int)∈now then none else if (on (zf x) (sf x)&&!stB (now.getD (zf x).toNat 0) (sf x))=true then goF now (k+1) xs else
   match lf now x with
   | some l=>some (k::l)
   | none=>goF (stL now (zf x) (sf x)) (k+1) xs
end
noncomputable def ftP (h w g:Int) (PP:List RR) (cl m:∅) (th:Tho):Option ∅:=if lfP h w g PP cl m th=true then none else some []
noncomputable def ftU (h w g:Int) (PP:List RR) (cl:∅):(n:Nat)->∅->TU n->Option ∅
 | 0,m,(th:Tho)=>ftP h w g PP cl m th
 | _+1,m,(.inl th:Tho ⊕ _)=>ftP h w g PP cl m th
 | n+1,m,(.inr p:Tho ⊕ _)=>if (decide (p.1=0)&&onB h w g p.2.1 p.2.2.1&&!p.2.2.2.isEmpty)=true then goF (ftU h w g PP cl n) (zU n) (sU n) (onB h w g) (supL m p.2.1 p.2.2.1) 0 p.2.2.2 else some []
variable{PP:List RR}{cl:∅}{th:Tho}
def Ig{m:∅}(e:ftP h w g PP cl m th=none):onB h w g th.z th.s=true:=by
 unfold ftP at e
 split at e
 . rename_i q
   unfold lfP alwA formB at q;simp only[Qy,P6]at q;exact onB_iff.mpr ⟨q.1.1,q.1.2.1⟩
 . cases e
theorem zg:∀{n:Nat} {m:∅} {x:TU n},ftU h w g PP cl n m x=none->onB h w g (zU n x) (sU n x)=true
 | 0,_,(_:Tho),e=>Ig e
 | _+1,_,(.inl _:Tho ⊕ _),e=>Ig e
 | n+1,m,(.inr p:Tho ⊕ _),e=>by
  have e:(if (decide (p.1=0)&&onB h w g p.2.1 p.2.2.1&&!p.2.2.2.isEmpty)=true then goF (ftU h w g PP cl n) (zU n) (sU n) (onB h w g) (supL m p.2.1 p.2.2.1) 0 p.2.2.2 else some [])=none:=e
  split at e
  . rename_i q
    simp only[Qy]at q;exact q.1.2
  . cases e
theorem Ds{α:Type}{b:∅->α->Option ∅}{c d:α->Int}{f:Int->Int->Bool}{n:Nat}(h:∀ m x l,b m x=some l->l.length<=n):∀{xs:List α} {a:∅} {k:Int} {l:∅},goF b c d f a k xs=some l->l.length<=n+1
 | [],a,k,l,e=>by
  unfold goF at e
  split at e
  . cases e
  . cases e;exact QI _
 | x::xs,a,k,l,e=>by
  unfold goF at e
  split at e
  . cases e
  . split at e
    . exact Ds h e
    . split at e
      . rename_i g q;cases e;exact SO (h _ _ _ q)
      . exact Ds h e
theorem uQ{h w g:Int}{PP:List RR}{cl:∅}:∀{n:Nat} {m:∅} {x:TU n} {l:∅},ftU h w g PP cl n m x=some l->l.length<=n
 | 0,m,(th:Tho),l,e=>by
  have e:ftP h w g PP cl m th=some l:=e;unfold ftP at e
  split at e <;> cases e
  exact QI _
 | n+1,m,(.inl th:Tho ⊕ _),l,e=>by
  have e:ftP h w g PP cl m th=some l:=e;unfold ftP at e
  split at e <;> cases e
  exact QI _
 | n+1,m,(.inr p:Tho ⊕ _),l,e=>by
  have e:(if (decide (p.1=0)&&onB h w g p.2.1 p.2.2.1&&!p.2.2.2.isEmpty)=true then goF (ftU h w g PP cl n) (zU n) (sU n) (onB h w g) (supL m p.2.1 p.2.2.1) 0 p.2.2.2 else some [])=some l:=e
  split at e
  . exact Ds (λm x l e=>uQ e) e
  . cases e;exact QI _
noncomputable def foU (h w g:Int) (PP:List RR) (cl:∅) (n:Nat):∅->Int->List (TU n)->∅ ⊕ ∅
 | now,_,[]=>.inr now
 | now,k,x::xs=>if (decide ((0:Int)∈now)||!(onB h w g (zU n x) (sU n x)&&stB (now.getD (zU n x).toNat 0) (sU n x)))=true then .inl [k] else
   match ftU h w g PP cl n now x with
   | some l=>.inl (k::l)
   | none=>foU h w g PP cl n (stL now (zU n x) (sU n x)) (k+1) xs
def MO(g:Int)(ms:∅):Prop:=∀ m∈ms,0<=m/\m<2^g.toNat
variable{ms:∅}
def MO.m64(x:MO g ms)(a:1<=g)(c:g<=6):∀ m∈ms,0<=m/\m<64:=λm b=>by
 have:=Mh a c;have:=x m b;omega
def LL:((List.range 7).all λg=>(List.range (2^g)).all λm=>(List.range 7).all λs=>!stB (m:Int) (s:Int)||decide (s<=g))=true:=by decide+kernel
def MO.st(x:MO g ms)(d:1<=g)(h:g<=6){i:Nat}{s:Int}(c:i<ms.length)(e:stB (ms.getD i 0) s=true):s<=g:=by
 have b:=x _ (ce (ms:=ms) (k:=i) c);have a:=x.m64 d h _ (ce (ms:=ms) (k:=i) c);have j:=st6 a.1 a.2 e;generalize ms.getD i 0=m at*;obtain⟨m,rfl⟩:=Rj b.1;obtain⟨s,rfl⟩:=Rj (show 0<=s by omega);obtain⟨g,rfl⟩:=Rj (show 0<=g by omega);have f:m<2^g:=by have:=b.2;rw[show((g:Nat):Int).toNat=g from QV g]at this;exact_mod_cast this
 have t:=Qj.mp (Qj.mp (Qj.mp LL g (Qf.mpr #[0])) m (Qf.mpr f)) s (Qf.mpr #[0]);rw[e]at t;have:=Qw (by simpa using t:decide (s<=g)=true);omega
def MO.put(x:MO g ms){i:Nat}{v:Int}(b:0<=v)(v1:v<2^g.toNat):MO g (ms.set i v):=λm a=>by
 rcases List.mem_or_eq_of_mem_set a with a | rfl
 . exact x m a
 . exact⟨b,v1⟩
def Gn(a:1<=s)(b:s<=g):0<=(1:Int)*2^(s-1).toNat/\(1:Int)*2^(s-1).toNat<2^g.toNat:=by
 rw[T8];have h:(2:Nat)^(s-1).toNat<2^g.toNat:=Nat.pow_lt_pow_right #[1] #[0];have e:∀ k:Nat,((2:Int)^k)=((2^k:Nat):Int):=λk=>by simp
 rw[e,e];exact⟨Int.natCast_nonneg _,by exact_mod_cast h⟩
def MO.sup(x:MO g ms){z s:Int}(a:1<=s)(b:s<=g):MO g (supL ms z s):=x.put (Gn a b).1 (Gn a b).2
theorem MO.stL(x:MO g ms){z s:Int}(h:1<=g)(j:g<=6)(e:1<=s)(f:s<=6):MO g (stL ms z s):=λm d=>by
 unfold L2.stL at d;obtain⟨i,c,rfl⟩:=Qe.mp d;have c:=Qf.mp c;have b:=x _ (ce (ms:=ms) (k:=i) c);have a:=x.m64 h j _ (ce (ms:=ms) (k:=i) c)
 split
 . have l:=(LD (s:=s) a.1 a.2 e f).1;omega
 . exact b
def TrU(F:Addr->Prop)(H:Hp):(n:Nat)->Addr->TU n->Prop
 | 0,T,(th:Tho)=>∃ M,IsTh H T M th.t th.r th.z th.s th.ms/\F M
 | _+1,T,(.inl th:Tho ⊕ _)=>∃ M,IsTh H T M th.t th.r th.z th.s th.ms/\F M
 | n+1,T,(.inr p:Tho ⊕ _)=>∃(B:Addr) (bs:List Addr),H T=some (.tup [.str supS,.int p.1,.int p.2.1,.int p.2.2.1,.ref B])/\H B=↥(bs.map V.ref)/\F B/\bs.length=p.2.2.2.length/\p.2.2.2.length<=200/\∀(i:Nat) b y,bs[i]? =some b->p.2.2.2[i]? =some y->TrU F H n b y
section
variable{F F':Addr->Prop}{H H':Hp}
theorem TrU.keep(k:∀ b xs,F b->H b=↥xs->H' b=↥xs)(a:∀ b xs,H b=some (.tup xs)->H' b=some (.tup xs)):∀{n:Nat} {T:Addr} {x:TU n},TrU F H n T x->TrU F H' n T x
 | 0,_,(_:Tho),⟨M,Y,f⟩=>⟨M,⟨a _ _ Y.T,k _ _ f Y.M,Y.n⟩,f⟩
 | _+1,_,(.inl _:Tho ⊕ _),⟨M,Y,f⟩=>⟨M,⟨a _ _ Y.T,k _ _ f Y.M,Y.n⟩,f⟩
 | _+1,_,(.inr _:Tho ⊕ _),⟨B,bs,e1,e2,f,l,l2,tr⟩=>⟨B,bs,a _ _ e1,k _ _ f e2,f,l,l2,λi b y h1 h2=>TrU.keep k a (tr i b y h1 h2)⟩
def TrU.same(s:Same H H'){n:Nat}{T:Addr}{x:TU n}(t:TrU F H n T x):TrU F H' n T x:=t.keep (λ_ _ _ e=>s _ _ e) λ_ _ e=>s _ _ e
theorem TrU.weak(k:∀ b,F b->F' b):∀{n:Nat} {T:Addr} {x:TU n},TrU F H n T x->TrU F' H n T x
 | 0,_,(_:Tho),⟨M,Y,f⟩=>⟨M,Y,k _ f⟩
 | _+1,_,(.inl _:Tho ⊕ _),⟨M,Y,f⟩=>⟨M,Y,k _ f⟩
 | _+1,_,(.inr _:Tho ⊕ _),⟨B,bs,e1,e2,f,l,l2,tr⟩=>⟨B,bs,e1,e2,k _ f,l,l2,λi b y h1 h2=>TrU.weak k (tr i b y h1 h2)⟩
def TrU.put{n:Nat}{T A:Addr}{x:TU n}{xs ys:List V}(t:TrU F H n T x)(e:H A=↥xs)(f:¬ F A):TrU F (upd H A (.lst ys)) n T x:=
 t.keep (λb a c q=>by rw[ap λ(i:b=A)=>f (i ▸ c)];exact q) λb a q=>by
  rw[ap λ(i:b=A)=>?_];exact q;rw[i,e]at q;cases q
theorem TrU.parts:∀{n:Nat} {T:Addr} {x:TU n},TrU F H n T x->∃(a:Str) (r:Int) (M:Addr),H T=some (.tup [.str a,.int r,.int (zU n x),.int (sU n x),.ref M])
 | 0,_,(_:Tho),⟨M,Y,_⟩=>⟨_,_,M,Y.T⟩
 | _+1,_,(.inl _:Tho ⊕ _),⟨M,Y,_⟩=>⟨_,_,M,Y.T⟩
 | _+1,_,(.inr _:Tho ⊕ _),⟨B,_,e1,_⟩=>⟨_,_,B,e1⟩
end
def dU:(n:Nat)->TU n->PyData
 | 0,(th:Tho)=>dBk th
 | _+1,(.inl th:Tho ⊕ _)=>dBk th
 | n+1,(.inr p:Tho ⊕ _)=>.tuple [.str supS,.int p.1,.int p.2.1,.int p.2.2.1,.list (p.2.2.2.map (dU n))]
theorem dvU{K:Frag}{F:Addr->Prop}{H:Hp}:∀{n:Nat} {T:Addr} {x:TU n},TrU F H n T x->DV K H (.ref T) (dU n x)
 | 0,_,(_:Tho),⟨_,Y,_⟩=>JC Y
 | _+1,_,(.inl _:Tho ⊕ _),⟨_,Y,_⟩=>JC Y
 | n+1,_,(.inr p:Tho ⊕ _),⟨B,bs,e1,e2,_,l,_,tr⟩=>by
  refine .tup (Ud e1) (.cons (.str _) (.cons (.int _) (.cons (.int _) (.cons (.int _) (.cons (.lst (Qh e2) ?_) .nil)))));refine DVs.of_get (by rw[P0,P0,l]) λi y d h1 h2=>?_;obtain⟨b,c,rfl⟩:=bL h1;rw[P5]at h2;obtain⟨z,a,rfl⟩:=RG.mp h2;exact dvU (tr i b z c a)
theorem layU:∀{n:Nat} {x:TU n},PyData.canLay0 (dU n x)=true/\(dU n x).depth<=2+2*n
 | 0,(th:Tho)=>by
  have t:=Fj th.t th.r th.z th.s th.ms;exact⟨t.1,t.2⟩
 | n+1,(.inl th:Tho ⊕ _)=>by
  have t:=Fj th.t th.r th.z th.s th.ms;refine⟨t.1,?_⟩;have:=t.2;show(dBk th).depth<=_;exact Qa this #[0]
 | n+1,(.inr p:Tho ⊕ _)=>by
  have h1:PyData.canLayAll0 (p.2.2.2.map (dU n))=true:=qW λd a=>by obtain⟨x,_,rfl⟩:=Qe.mp a;exact layU.1
  have h2:PyData.depthAll (p.2.2.2.map (dU n))<=2+2*n:=px λd a=>by obtain⟨x,_,rfl⟩:=Qe.mp a;exact layU.2
  show PyData.canLay0 (.tuple [.str supS,.int p.1,.int p.2.1,.int p.2.2.1,.list (p.2.2.2.map (dU n))])=true/\(PyData.tuple [.str supS,.int p.1,.int p.2.1,.int p.2.2.1,.list (p.2.2.2.map (dU n))]).depth<=2+2*(n+1);refine⟨?_,?_⟩
  . have b:PyData.strOk supS=true:=by decide+kernel
    simp[PyData.canLay0,PyData.canLayAll0,h1,b]
  . simp[PyData.depth,PyData.depthAll];omega
structure BkU(F:Addr->Prop)(H:Hp)(n:Nat)(B:Addr)(bs:List Addr)(bk:List (TU n)):Prop where
 top:H B=↥(bs.map V.ref)
 len:bs.length=bk.length
 tr:∀(i:Nat) b y,bs[i]? =some b->bk[i]? =some y->TrU F H n b y
section
variable{K:Frag}{F F':Addr->Prop}{H H':Hp}{Q:VK}{n:Nat}{B E:Addr}{bs:List Addr}{bk:List (TU n)}
def BkU.same(x:BkU F H n B bs bk)(s:Same H H'):BkU F H' n B bs bk:=⟨s _ _ x.top,x.len,λi b y h1 h2=>(x.tr i b y h1 h2).same s⟩
def BkU.dv(x:BkU F H n B bs bk):DV K H (.ref B) (.list (bk.map (dU n))):=
 .lst (Qh x.top) (DVs.of_get (by rw[P0,P0,x.len]) λi y d h1 h2=>by
  obtain⟨b,c,rfl⟩:=bL h1;rw[P5]at h2;obtain⟨z,a,rfl⟩:=RG.mp h2;exact dvU (x.tr i b z c a))
def BkU.sh(b:n<=5):SeqAt.shaped (.list (bk.map (dU n))):=by
 have h1:PyData.canLayAll0 (bk.map (dU n))=true:=qW λd a=>by obtain⟨x,_,rfl⟩:=Qe.mp a;exact layU.1
 have h2:PyData.depthAll (bk.map (dU n))<=2+2*n:=px λd a=>by obtain⟨x,_,rfl⟩:=Qe.mp a;exact layU.2
 simp[SeqAt.shaped,PyData.canLay0,h1,PyData.depth];omega
def Mj(a:n<=5)(x:BkU F H n B bs bk)(e:H E=some (.lst []))(q:Q (.bl (!bk.isEmpty)) H):cNe K (.ref B) (.ref E) H Q:=by
 show rNeD K (.ref B) (.ref E) H Q;refine⟨.list (bk.map (dU n)),.list [],x.dv,.lst (Qh e) .nil,BkU.sh a,by decide,?_⟩;have e2:PyData.eqv (.list (bk.map (dU n))) (.list [])=bk.isEmpty:=by cases bk <;> simp[PyData.eqv,PyData.eqvAll]
 rw[e2];exact q
def Ml(a:n<=5)(x:BkU F H n B bs bk)(e:H E=some (.lst []))(q:Q (.bl bk.isEmpty) H):cEq K (.ref B) (.ref E) H Q:=by
 show rEqD K (.ref B) (.ref E) H Q;refine⟨.list (bk.map (dU n)),.list [],x.dv,.lst (Qh e) .nil,BkU.sh a,by decide,?_⟩;have e2:PyData.eqv (.list (bk.map (dU n))) (.list [])=bk.isEmpty:=by cases bk <;> simp[PyData.eqv,PyData.eqvAll]
 rw[e2];exact q
end
def cu(K:Frag)(c:Uk)(d:Ul):Sp:=#[3,∃ P L G T M h w g PP cl a r z s,vs=[.ref P,.ref T]/\IsPz H c d P L G h w g PP cl/\H T=some (.tup [.str a,.int r,.int z,.int s,.ref M])/\Q (.bl (onB h w g z s)) H]
def gz(K:Frag)(c:Uk)(d:Ul):TS:=#[":glDt;~D~Eckt0eh#2 jG,'Pca1eG,'hca2abi1df#2 e,'ica2abi1df#3 e"]
variable{K:Frag}{c:Uk}{d:Ul}{vs:List V}{H:Hp}{Q:VK}{E:XK}
theorem rg(h:cu K c d vs H Q E):gz K c d (eD9 Q) (start ["puzzle","thought","floor"] vs) H:=by
 obtain⟨P,L,G,T,M,h,w,g,PP,cl,a,r,z,s,rfl,b,X,q⟩:=h;obtain⟨i,p,rs,h1,h2,h3⟩:=b.ex;exists gz;refine methE (k:=.Puzzle) rfl b.ok h1 (by rfl) ?_;exists⟨P,L,G,h,w,g,PP,cl,rfl,b,λp f=>?_⟩;exists⟨T,M,a,r,z,s,rfl,X,?_⟩;exists ixT X (v:=V.int z) rfl ?_;refine⟨p,h,w,g,z,rfl,f,b.R.F,?_⟩;unfold onB at q
 cases e:decide (0<=z)&&decide (z<h*w) with
 | false=>
  rw[e,P9]at q;symm;exact q
 | true=>
  rw[e,Qc]at q;exists ixT X (v:=V.int s) rfl ?_;exact⟨p,h,w,g,s,rfl,f,q⟩
def ik(K:Frag)(c:Uk)(d:Ul):Sp:=#[3,∃(P L G N T M:Addr) (h w g:Int) (PP:List RR) (cl b:∅) (a:Str) (r z s:Int),vs=[.ref P,.ref N,.ref T]/\IsPz H c d P L G h w g PP cl/\H N=↥(b.map V.int)/\b.length=(h*w).toNat/\H T=some (.tup [.str a,.int r,.int z,.int s,.ref M])/\Q (.bl (onB h w g z s&&!stB (b.getD z.toNat 0) s)) H]
def im(K:Frag)(c:Uk)(d:Ul):TS:=#[":jG,'pckta0a2e~z,~tcabi1bi2df#2 abi2df#3 e"]
theorem tY(h:ik K c d vs H Q E):im K c d (eD9 Q) (start ["puzzle","masks","thought"] vs) H:=by
 obtain⟨P,L,G,N,T,M,h,w,g,PP,cl,f,a,r,z,s,rfl,b,i,j,X,q⟩:=h;exists im;refine⟨P,L,G,T,M,h,w,g,PP,cl,a,r,z,s,rfl,b,X,?_⟩
 cases e:onB h w g z s with
 | false=>
  rw[e,P9]at q;symm;exact q
 | true=>
  rw[e,Qc]at q;have o:=onB_iff.mp e;exists ixT X (v:=V.int z) rfl ?_;exists ixI i o.1.1 #[0] ?_;refine ixT X (v:=V.int s) rfl ?_;refine⟨_,s,rfl,?_⟩;symm;exact q
def eE(K:Frag)(c:Uk)(d:Ul):Sp:=#[3,∃(P L G N T M:Addr) (h w g:Int) (PP:List RR) (cl b:∅) (a:Str) (r z s:Int),vs=[.ref P,.ref N,.ref T]/\IsPz H c d P L G h w g PP cl/\H N=↥(b.map V.int)/\b.length=(h*w).toNat/\H T=some (.tup [.str a,.int r,.int z,.int s,.ref M])/\Q (.bl (onB h w g z s&&stB (b.getD z.toNat 0) s)) H]
def eF(K:Frag)(c:Uk)(d:Ul):TS:=#[":jG,'pckta0a2e,~tcabi1bi2df#2 abi2df#3 e"]
theorem oZ(h:eE K c d vs H Q E):eF K c d (eD9 Q) (start ["puzzle","masks","thought"] vs) H:=by
 obtain⟨P,L,G,N,T,M,h,w,g,PP,cl,f,a,r,z,s,rfl,b,i,j,X,q⟩:=h;exists eF;refine⟨P,L,G,T,M,h,w,g,PP,cl,a,r,z,s,rfl,b,X,?_⟩
 cases e:onB h w g z s with
 | false=>
  rw[e,P9]at q;symm;exact q
 | true=>
  rw[e,Qc]at q;have o:=onB_iff.mp e;exists ixT X (v:=V.int z) rfl ?_;exists ixI i o.1.1 #[0] ?_;refine ixT X (v:=V.int s) rfl ?_;exact⟨_,s,rfl,q⟩
def eI(K:Frag)(c:Uk)(d:Ul):Sp:=#[3,∃ n P L G T B e h w g PP cl a r z s b F,vs=[.ref P,.ref T]/\n<=5/\IsPz H c d P L G h w g PP cl/\H T=some (.tup [.str a,.int r,.int z,.int s,.ref B])/\BkU F H n B e b/\∀ H',Same H H'->Q (.bl (decide (r=0)&&onB h w g z s&&!b.isEmpty)) H']
def eJ(K:Frag)(c:Uk)(d:Ul):TS:=#[":goBJw,~scabi1df#1 eBmbEcbi1df#1 df#0 Jw,'pckta0a1ejdFCpjGn/abi1df#4 ad-QebEcbi1df#4 ue"]
def o4(h:eI K c d vs H Q E):eJ K c d (eD9 Q) (start ["puzzle","thought"] vs) H:=by
 obtain⟨n,P,L,G,T,B,o,h,w,g,PP,cl,a,r,z,s,m,F,rfl,l,k,X,b,q⟩:=h;ac_nf;unfold eJ;rw[ax,az];exists ixT X (v:=V.int r) rfl ?_;refine⟨r,rfl,⟨true,rfl,iteF ?_⟩⟩;exists ixT X (v:=V.int r) rfl ?_;symm;by_cases f:r=0
 . subst f;exists⟨P,L,G,T,B,h,w,g,PP,cl,a,0,z,s,rfl,k,X,?_⟩
   cases e:onB h w g z s with
   | false=>
    rw[e]at q;refine⟨false,rfl,?_⟩;exists q H (P2 _)
   | true=>
    rw[e]at q;refine⟨true,rfl,?_⟩;exists ixT X (v:=V.ref B) rfl ?_;refine yz b.top ?_;exists ixT X (v:=V.ref B) rfl ?_;exists⟨aQ #[1],λe j=>?_⟩;have i:Same H (upd H e (.lst [])):=(P2 H).laid j;refine Mj l (b.same i) ai ?_;exact q _ i
 . rw[P3 f]at q;rw[P3 f];exists q H (P2 _)
def sY(t:TK):decide (tx (tkC t)=supS)=false:=by cases t <;> decide
structure Fi41(H:Hp)(c:Uk)(d:Ul)(P L G A:Addr)(h w g:Int)(PP:List RR)(cl PM:∅):Prop where
 P:IsPz H c d P L G h w g PP cl
 A:H A=↥(PM.map V.int)
 n:PM.length=(h*w).toNat
 mm:MO g PM
variable{PM:∅}
def Fi41.same{H':Hp}{P L G A:Addr}(x:Fi41 H c d P L G A h w g PP cl PM)(s:Same H H'):Fi41 H' c d P L G A h w g PP cl PM:=⟨x.P.same s,s _ _ x.A,x.n,x.mm⟩
def FiQ(Q:VK)(H:Hp)(o:Option ∅):Prop:=(o=none->∀ H',Same H H'->Q .non H')/\(∀ xs,o=some xs->∀(l:Addr) (H':Hp),Same H H'->H l=none->H' l=↥(xs.map V.int)->Q (.ref l) H')
def LM(n:Nat)(K:Frag)(c:Uk)(d:Ul):Sp:=#[3,∃(P L G A T:Addr) (h w g:Int) (PP:List RR) (cl PM:∅) (x:TU n) (F:Addr->Prop),vs=[.ref P,.ref A,.ref T]/\n<=5/\Fi41 H c d P L G A h w g PP cl PM/\TrU F H n T x/\FiQ Q H (ftU h w g PP cl n PM x)]
def cR(K:Frag)(c:Uk)(d:Ul):Nat->Sp
 | 0=>λ_ _ _ _=>False
 | n+1=>LM n K c d
def BC(h:cR K c d 0 vs H Q E):False:=h
variable{n:Nat}
theorem BD(h:cR K c d n vs H Q E):vs.length=3:=by
 cases n with
 | zero=>exact h.elim
 | succ n=>obtain⟨_,_,_,_,_,_,_,_,_,_,_,_,_,rfl,_⟩:=h;rfl
def Go(K:Frag)(c:Uk)(d:Ul)(n:Nat):TS:=#[":gow,~Jca3ejdSpoJw,}[ckta0a3a5egl,'qcktYa0a3a5eh#6 gomb~;6dSjbvua4e6pl,'Qca3abi5df#2 abi5df#3 eh#3 p"]
def nu(K:Frag)(c:Uk)(d:Ul)(n:Nat):TS:=#[":goJw,}]ca2ej~mw,'Rckta0a1a2edSuepgoJw,}^ckta0a2ejuepgl,_aca1abi2df#2 abi2df#3 eh#3 gT~Lcabi2df#4 e?c#2 Mh#4 Mh#5 [_bcktYj~mw,~Jca3edSue"]
variable{M:Addr}
theorem Fl{P L G A T:Addr}{W:TS}(X:Fi41 H c d P L G A h w g PP cl PM)(Y:IsTh H T M th.t th.r th.z th.s th.ms)(q:FiQ Q H (ftP h w g PP cl PM th)):
  (tIfS (tNot (tB (tCall (gm K) [] E0 (tCons (tVar 2) tNil)))) (tRet (tIf (tB (tCall (jF K c d) [] E0 (tCons (tVar 0) (tCons (tVar 1) (tCons (tVar 2) tNil))))) (tC .non) (tLst tNil))) tNext) {nx:=W (eD9 Q),rt:=Q} [↑P,↑A,↑T,none,none,none,none] H:=by
 rw[az];exists⟨T,M,_,_,_,_,rfl,Y.T,?_⟩;rw[sY];exists⟨P,L,G,A,T,M,h,w,g,PP,cl,PM,th.t,th.r,th.z,th.s,th.ms,rfl,⟨X.P,Y,X.A,X.n⟩,X.mm.m64 X.P.R.F.g0 X.P.R.F.g1,λf a=>?_⟩;unfold ftP lfP at q
 cases b:alwA h w g PP cl PM th.t th.r th.z th.s th.ms with
 | true=>
  rw[b,Qt rfl]at q;exact⟨true,rfl,iteT (q.1 rfl f a)⟩
 | false=>
  rw[b,Qp P7]at q;refine⟨false,rfl,iteF ?_⟩;exists⟨aQ #[1],λl e=>q.2 [] rfl l _ (a.trans ((P2 f).laid e)) (a.free e) ai⟩
variable{on:Int->Int->Bool}{now:∅}
def xH{α:Type}{c:∅->α->Option ∅}{b a:α->Int}{k:Int}{x:α}{xs:List α}:goF c b a on now k (x::xs)=if (0:Int)∈now then none else if (on (b x) (a x)&&!stB (now.getD (b x).toNat 0) (a x))=true then goF c b a on now (k+1) xs else
   match c now x with
   | some l=>some (k::l)
   | none=>goF c b a on (stL now (b x) (a x)) (k+1) xs:=rfl
section
variable{n:Nat}{K:Frag}{c:Uk}{d:Ul}{H:Hp}{Q:VK}{P L G A T:Addr}{h w g:Int}{PP:List RR}{cl:∅}
theorem Kv {D:Ends} {N b:Addr} {now:∅} {y:TU n} {rest:List (TU n)} {F:Addr->Prop} {i:Nat} {p:Option V} (W:n<=4) (X:Fi41 H c d P L G N h w g PP cl now) (Y:TrU F H n b y) (Q:i<=200)
  (k0:goF (ftU h w g PP cl n) (zU n) (sU n) (onB h w g) now (i:Int) (y::rest)=none->∀ H',Same H H'->D.rt .non H')
  (k1:goF (ftU h w g PP cl n) (zU n) (sU n) (onB h w g) now (i:Int) (y::rest)=goF (ftU h w g PP cl n) (zU n) (sU n) (onB h w g) now ((i:Int)+1) rest->∀ H',Same H H'->D.nx [↑P,↑A,↑T,↑N,⇑(i:Int),↑b,p] H')
  (k2:goF (ftU h w g PP cl n) (zU n) (sU n) (onB h w g) now (i:Int) (y::rest)=goF (ftU h w g PP cl n) (zU n) (sU n) (onB h w g) (stL now (zU n y) (sU n y)) ((i:Int)+1) rest->onB h w g (zU n y) (sU n y)=true->∀(k:Addr) (H':Hp) (p:Option V),Same H H'->H' k=↥((stL now (zU n y) (sU n y)).map V.int)->D.nx [↑P,↑A,↑T,↑k,⇑(i:Int),↑b,p] H')
  (k3:∀ xs,goF (ftU h w g PP cl n) (zU n) (sU n) (onB h w g) now (i:Int) (y::rest)=some xs->∀(l:Addr) (H':Hp),Same H H'->H l=none->H' l=↥(xs.map V.int)->D.rt (.ref l) H'):
  Go K c d (n+1) D [↑P,↑A,↑T,↑N,⇑(i:Int),↑b,p] H:=by
 have g6:=X.P.R.F.g1;have S:=X.n;have z:=X.P.R.F.m;obtain⟨a,r,M,s⟩:=Y.parts;rw[xH]at k0 k1 k2 k3;unfold Go;rw[ax,az];exists⟨N,now,rfl,X.A,?_⟩;by_cases h0:(0:Int)∈now
 . rw[P4 h0];rw[Qt h0]at k0;exists k0 rfl H (P2 _)
 rw[P3 h0];rw[Qp h0]at k0 k1 k2 k3;symm;rw[az];exists⟨P,L,G,N,b,M,h,w,g,PP,cl,now,a,r,zU n y,sU n y,rfl,X.P,X.A,X.n,s,?_⟩
 cases u:(onB h w g (zU n y) (sU n y)&&!stB (now.getD (zU n y).toNat 0) (sU n y)) with
 | true=>
  rw[u,Qt rfl]at k1;refine⟨true,rfl,?_⟩;exists k1 rfl H (P2 _)
 | false=>
  rw[u,Qp P7]at k2 k3;refine⟨false,rfl,?_⟩;exists⟨P,L,G,N,b,h,w,g,PP,cl,now,y,F,rfl,by omega,X,Y,λe E f=>?_,λxs e l E f hl J=>?_⟩
  . rw[e]at k2;have o:=onB_iff.mp (zg e);symm;rw[az];exists ixT (f _ _ s) (v:=V.int (zU n y)) rfl ?_;exists ixT (f _ _ s) (v:=V.int (sU n y)) rfl ?_;refine⟨N,now,zU n y,sU n y,rfl,f _ _ X.A,by omega,by omega,λk x q B e2=>?_⟩;exact k2 rfl (zg e) k x _ (f.trans q) e2
  . rw[e]at k3;have U:=uQ e;symm;rw[az];exists⟨lnR rfl,λZ C=>?_⟩;obtain⟨x,O,q,I⟩:=aU (.lst [V.int (i:Int)]) C;rw[O];refine jC I (q _ _ J) (by rw[P0];show 1+_<=1000;omega) λR t=>?_;have j:=f.trans q;exact k3 _ rfl R _ (j.laid t) (j.free t) ai
end
theorem BE(h:cR K c d (n+1) vs H Q E):nu K c d n (eD9 Q) (start ["puzzle","masks","thought","now","place","inner","fault"] vs) H:=by
 obtain⟨P,L,G,A,T,h,w,g,PP,cl,PM,x,F,rfl,n5,X,Y,q⟩:=h;show nu K c d n _ [↑P,↑A,↑T,none,none,none,none] H;unfold nu
 match n,x,Y,q with
 | 0,(th:Tho),Y,q=>
  obtain⟨M,Y,_⟩:=(show ∃ M,IsTh H T M (Tho.t th) (Tho.r th) (Tho.z th) (Tho.s th) (Tho.ms th)/\F M from Y);rw[ax];exact Fl (th:=th) X Y q
 | n+1,(.inl th:Tho ⊕ _),Y,q=>
  obtain⟨M,Y,_⟩:=Y;rw[ax];exact Fl (th:=th) X Y q
 | n+1,(.inr (r,z,s,bk):Tho ⊕ _),Y,q=>
  obtain⟨B,bs,D,eB,fB,bl,J,tr⟩:=Y;have g6:=X.P.R.F.g1;have ab:=X.P.R.F.m;have xn:=X.n;have q:FiQ Q H (if (decide (r=0)&&onB h w g z s&&!bk.isEmpty)=true then goF (ftU h w g PP cl n) (zU n) (sU n) (onB h w g) (supL PM z s) 0 bk else some []):=q;have bl:bs.length=bk.length:=bl;have J:bk.length<=200:=J;generalize hB:Go K c d (n+1)=FB at*;rw[ax,az];exists⟨T,B,supS,r,z,s,rfl,D,?_⟩;rw[P4 rfl];symm;rw[az];exists⟨n,P,L,G,T,B,bs,h,w,g,PP,cl,supS,r,z,s,bk,F,rfl,by omega,X.P,D,⟨eB,bl,tr⟩,λH1 u=>?_⟩
  cases he:(decide (r=0)&&onB h w g z s&&!bk.isEmpty) with
  | false=>
   rw[he,Qp P7]at q;refine⟨false,rfl,?_⟩;exists⟨aQ #[1],λl k=>q.2 [] rfl l _ (u.laid k) (u.free k) ai⟩
  | true=>
   rw[he,Qt rfl]at q;have o:=onB_iff.mp (Ru.mp (Ru.mp he).1).2;refine⟨true,rfl,?_⟩;exists ixT (u _ _ D) (v:=V.int z) rfl ?_;exists ixT (u _ _ D) (v:=V.int s) rfl ?_;refine⟨A,PM,z,s,rfl,u _ _ X.A,by omega,o.1.1,o.2.1,by omega,λN H2 s2 hN eN=>?_⟩;have p:=u.trans s2;exists ixT (p _ _ D) (v:=V.ref B) rfl ?_;refine⟨B,rfl,⟨_,Qh (p _ _ eB)⟩,?_⟩
   refine Cz (xs:=bs.map V.ref) (λi σ H'=>∃(N:Addr) (now:∅) (v4 v5 Z:Option V),σ=[↑P,↑A,↑T,↑N,v4,v5,Z]/\Same H H'/\H' N=↥(now.map V.int)/\now.length=(h*w).toNat/\MO g now/\goF (ftU h w g PP cl n) (zU n) (sU n) (onB h w g) (supL PM z s) 0 bk=goF (ftU h w g PP cl n) (zU n) (sU n) (onB h w g) now (i:Int) (bk.drop i))
    ⟨N,_,none,none,none,rfl,p,eN,by rw[Dq];exact xn,X.mm.sup o.2.1 o.2.2,rfl⟩ (λi σ H' _ ⟨_,_,_,_,_,_,s,_⟩=>Qh (s _ _ eB)) ?_ ?_
   . rintro i x U σ C hx ⟨N,now,v4,v5,Z,rfl,O,S,nl,W,f⟩ hU;obtain⟨b,hb,rfl⟩:=bL hx;have hi:i<bs.length:=(P8.mp hb).1;have hy:bk[i]? =some (bk[i]'#[0]):=P1 #[0];have ed:bk.drop i=(bk[i]'#[0])::bk.drop (i+1):=Ry #[0];rw[ed]at f;generalize (bk[i]'#[0])=y at*;have s4:Same C (upd C U (.tup [V.int (i:Int),V.ref b])):=(P2 C).laid hU;refine ox ai rfl ?_;rw[su];generalize upd C U (.tup [V.int (i:Int),V.ref b])=H4 at*;have a:=O.trans s4;subst hB;refine Kv (A:=A) (T:=T) (rest:=bk.drop (i+1)) #[0] ⟨X.P.same a,s4 _ _ S,nl,W⟩ ((tr i b y hb hy).same a) #[0] ?_ ?_ ?_ ?_
     . intro e I j;exact q.1 (f.trans e) I (a.trans j)
     . intro e I j;exact⟨N,now,_,_,_,rfl,a.trans j,(s4.trans j) _ _ S,nl,W,f.trans e⟩
     . intro e oy N' I Z j e5;have oy:=onB_iff.mp oy;exact⟨N',_,_,_,_,rfl,a.trans j,e5,by rw[rb];exact nl,W.stL X.P.R.F.g0 g6 oy.2.1 #[0],f.trans e⟩
     . intro xs e l I j k el;exact q.2 xs (f.trans e) l I (a.trans j) (a.free k) el
   . rintro σ C ⟨N,now,v4,v5,Z,rfl,O,S,nl,W,f⟩;rw[P0,bl,Sh]at f;have f:goF (ftU h w g PP cl n) (zU n) (sU n) (onB h w g) (supL PM z s) 0 bk=if (0:Int)∈now then none else some []:=f;rw[f]at q;dsimp only;exists⟨N,now,rfl,S,?_⟩;by_cases h0:(0:Int)∈now
     . rw[Qt h0]at q;rw[P4 h0];exact⟨true,rfl,iteT (q.1 rfl C O)⟩
     . rw[Qp h0]at q;rw[P3 h0];refine⟨false,rfl,iteF ?_⟩;exists⟨aQ #[1],λl k=>q.2 [] rfl l _ (O.laid k) (O.free k) ai⟩
def qE(K:Frag)(c:Uk)(d:Ul):Sp:=#[3,∃ P L G A T h w g PP cl PM x F,vs=[.ref P,.ref A,.ref T]/\Fi41 H c d P L G A h w g PP cl PM/\TrU F H 2 T x/\∀ H',Same H H'->Q (.bl (ftU h w g PP cl 2 PM x).isNone) H']
def qF(K:Frag)(c:Uk)(d:Ul):TS:=#[":jb~q,'qckt#3 a0a1a2edS"]
def EC(h:qE K c d vs H Q E):qF K c d (eD9 Q) (start ["puzzle","masks","thought"] vs) H:=by
 obtain⟨P,L,G,A,T,h,w,g,PP,cl,PM,x,F,rfl,X,Y,q⟩:=h;exists qF;refine⟨P,L,G,A,T,h,w,g,PP,cl,PM,x,F,rfl,by decide,X,Y,λa e b=>?_,λxs a l e b f i=>?_⟩
 . rw[a]at q;exact q e b
 . rw[a]at q;exact q e b
def insB(N z s:Int):Bool:=(decide (0<=z)&&decide (z<N))&&(decide (1<=s)&&decide (s<=4))
def insB_iff{N:Int}:insB N z s=true↔(0<=z/\z<N)/\1<=s/\s<=4:=by unfold insB;simp only[Qy,P6]
def eK(K:Frag):Sp:=#[3,∃(A T M:Addr) (ms:∅) (a:Str) (r z s:Int),vs=[.ref A,.ref T]/\H A=↥(ms.map V.int)/\H T=some (.tup [.str a,.int r,.int z,.int s,.ref M])/\Q (.bl (insB (ms.length:Int) z s)) H]
def kc(K:Frag):TS:=#[":jG~/(<df#0 bi1df#2 nxa0e~/((df#1 bi1df#3 df#4 "]
theorem xI(h:eK K vs H Q E):kc K (eD9 Q) (start ["_law_masks","_law_thought_here"] vs) H:=by
 obtain⟨A,T,M,ms,a,r,z,s,rfl,c,b,q⟩:=h;ac_nf;unfold kc;unfold insB at q;unfold mR;exists ixT b (v:=V.int z) rfl ?_;symm
 cases h0:decide (0<=z) with
 | false=>
  rw[h0,P9,P9]at q;symm;exact q
 | true=>
  rw[h0,Qc]at q;symm;rw[aO c,P0];symm
  cases h1:decide (z < (ms.length:Int)) with
  | false=>
   rw[h1,P9]at q;symm;exact q
  | true=>
   rw[h1,Qc]at q;exists ixT b (v:=V.int s) rfl ?_;symm
   cases h2:decide (1<=s) with
   | false=>
    rw[h2,P9]at q;symm;exact q
   | true=>
    rw[h2,Qc]at q;symm;exact q
def cf(K:Frag):Sp:=#[3,∃(A T M:Addr) (ms:∅) (a:Str) (r z s:Int),vs=[.ref A,.ref T]/\H A=↥(ms.map V.int)/\(∀ m∈ms,0<=m/\m<64)/\H T=some (.tup [.str a,.int r,.int z,.int s,.ref M])/\Q (.bl (insB (ms.length:Int) z s&&stB (ms.getD z.toNat 0) s)) H]
def kd(K:Frag):TS:=#[":jG,'rca0a1ebscb'mb~Rbi0bi1df#2 bIbi1df#3 df#1 df#1 df#1 "]
theorem xJ(h:cf K vs H Q E):kd K (eD9 Q) (start ["_law_masks","_law_thought_here"] vs) H:=by
 obtain⟨A,T,M,ms,a,r,z,s,rfl,d,f,b,q⟩:=h;exists kd;refine⟨A,T,M,ms,a,r,z,s,rfl,d,b,?_⟩
 cases e:insB (ms.length:Int) z s with
 | false=>
  rw[e,P9]at q;symm;exact q
 | true=>
  rw[e,Qc]at q;have o:=insB_iff.mp e;have c:=f _ (ce (ms:=ms) (k:=z.toNat) #[0]);exists ixT b (v:=V.int z) rfl ?_;refine ixI d o.1.1 #[0] ?_;refine ixT b (v:=V.int s) rfl ?_;exists⟨by omega,?_⟩;symm;rw[Jm c.1 c.2 o.2.1 #[0]];exact q
def cg(K:Frag):Sp:=#[3,∃ A T M ms a r z s,vs=[.ref A,.ref T]/\H A=↥(ms.map V.int)/\ms.length<=900/\H T=some (.tup [.str a,.int r,.int z,.int s,.ref M])/\0<=z/\z<ms.length/\1<=s/\s<=6/\stB (ms.getD z.toNat 0) s=true/\∀ l H',Same H H'->H l=none->H' l=↥((stL ms z s).map V.int)->Q (.ref l) H']
def ke(K:Frag):TS:=#[":gln+a0eh#2 glbIbi2bi1df#2 b~Mdf#1 bIbi1df#3 df#1 ~?2bi1df#2 ~[j2"]
def xK(h:cg K vs H Q E):ke K (eD9 Q) (start ["_law_masks","_law_thought_here","_law_left"] vs) H:=by
 obtain⟨A,T,M,ms,a,r,z,s,rfl,j,n,g,c,i,l,m,k,q⟩:=h;exists ke;refine iF j λB d=>?_;have f:Same H (upd H B (.lst (ms.map V.int))):=(P2 H).laid d;have e:(upd H B (.lst (ms.map V.int))) B=↥(ms.map V.int):=ai;have b:=f _ _ g;generalize upd H B (.lst (ms.map V.int))=H1 at*;exists ixT b (v:=V.int z) rfl ?_;refine ixI e c #[0] ?_;refine ixT b (v:=V.int s) rfl ?_;exists⟨⟨by omega,by omega,by decide⟩,?_⟩;exists ixT b (v:=V.int z) rfl ?_;refine B2 e c (by rw[P0];omega) ?_;rw[mI,Ic c i k];exists q B _ (f.own d) d ai
def LN(n:Nat)(K:Frag)(c:Uk)(d:Ul):Sp:=#[3,∃(P L G A T:Addr) (h w g:Int) (PP:List RR) (cl PM:∅) (x:TU n) (F:Addr->Prop),vs=[.ref P,.ref A,.ref T]/\n<=5/\Fi41 H c d P L G A h w g PP cl PM/\g<=4/\TrU F H n T x/\FiQ Q H (ftU h w g PP cl n PM x)]
def bx(K:Frag)(c:Uk)(d:Ul):Nat->Sp
 | 0=>λ_ _ _ _=>False
 | n+1=>LN n K c d
def zh(h:bx K c d 0 vs H Q E):False:=h
theorem zi(h:bx K c d n vs H Q E):vs.length=3:=by
 cases n with
 | zero=>exact h.elim
 | succ n=>obtain⟨_,_,_,_,_,_,_,_,_,_,_,_,_,rfl,_⟩:=h;rfl
def Gp(K:Frag)(c:Uk)(d:Ul)(n:Nat):TS:=#[":oWmbNcPdf#0 4Bw7w,~]ca4a6egl,~^cktYa0a4a6eh#8 gomb~;8dSjbvua5e8pl,'sca4a6eh#4 p"]
def Gq(K:Frag)(c:Uk)(d:Ul)(n:Nat):TS:=#[":glbibi2df#4 5h#6 gl~A~z,'rca4a6eb>bi6df#3 3h#7 _ccktY"]
def iX(K:Frag)(c:Uk)(d:Ul)(n:Nat):TS:=#[":gln+a1eh#4 glb~Mdf#1 bIbi2df#3 df#1 ~?4bi2df#2 ~[gT*anxabi2df#4 eeh#5 _dcktYgombNcCdf#0 4jdSpjue"]
def fQ(K:Frag)(c:Uk)(d:Ul)(n:Nat):TS:=#[":glbiDt;~D~Eckt0edf#2 h#3 goBmbEcbi2df#1 df#0 BJw,'rca1a2eBmb>bi2df#3 3mbscbi2df#4 uejuep_ecktY"]
def fR(K:Frag)(c:Uk)(d:Ul)(n:Nat):TS:=#[":gombEcbi2df#0 dqr`0gow,'Rckta0a1a2ejdSpjuep_fcktY",[115,117,112,112,111,115,101]]
theorem Jq{α:Type}{c:∅->α->Option ∅}{b a:α->Int}{k:Int}{xs:List α}(h:(0:Int)∈now):goF c b a on now k xs=none:=by
 cases xs with
 | nil=>unfold goF;rw[Qt h]
 | cons x xs=>rw[xH,Qt h]
def zj{N:Nat}(c:N=(h*w).toNat)(b:0<=h*w)(a:g<=4):onB h w g z s=(insB (N:Int) z s&&decide (s<=g)):=by
 have e:(N:Int)=h*w:=by omega
 unfold onB insB;rw[e];by_cases h1:s<=g
 . rw[P4 h1,P4 (show s<=4 by omega)];simp
 . rw[P3 h1,Te,Te,Te]
theorem Dt{P L G A T:Addr}(X:Fi41 H c d P L G A h w g PP cl PM)(Y:IsTh H T M th.t th.r th.z th.s th.ms)(q:FiQ Q H (ftP h w g PP cl PM th)):
  fR K c d n (eD9 Q) [↑P,↑A,↑T,none,none,none,none,none,none] H:=by
 unfold fR;generalize i:fQ K c d n=W at*;rw[ax,az];exists ixT Y.T (v:=V.str (tx (tkC th.t))) rfl ?_;symm;rw[sY];exists⟨P,L,G,A,T,M,h,w,g,PP,cl,PM,th.t,th.r,th.z,th.s,th.ms,rfl,⟨X.P,Y,X.A,X.n⟩,X.mm.m64 X.P.R.F.g0 X.P.R.F.g1,λf a=>?_⟩;unfold ftP lfP at q
 cases b:alwA h w g PP cl PM th.t th.r th.z th.s th.ms with
 | true=>
  rw[b,Qt rfl]at q;refine⟨true,rfl,?_⟩;exists q.1 rfl f a
 | false=>
  rw[b,Qp P7]at q;refine⟨false,rfl,?_⟩;exists⟨aQ #[1],λl e=>q.2 [] rfl l _ (a.trans ((P2 f).laid e)) (a.free e) ai⟩
section
variable{n:Nat}{K:Frag}{c:Uk}{d:Ul}{H:Hp}{Q:VK}{P L G A T B:Addr}{h w g:Int}{PP:List RR}{cl:∅}
theorem Kw {D:Ends} {N b:Addr} {now:∅} {y:TU n} {rest:List (TU n)} {bs:List Addr} {F:Addr->Prop} {i:Nat} {r z s:Int} {v8:Option V} (n5:n<=4) (O:g<=4) (X:Fi41 H c d P L G N h w g PP cl now) (eT:H T=some (.tup [.str supS,.int r,.int z,.int s,.ref B])) (eB:H B=↥(bs.map V.ref)) (hb:bs[i]? =some b) (Y:TrU F H n b y) (hi:i<=200)
  (k1:goF (ftU h w g PP cl n) (zU n) (sU n) (onB h w g) now (i:Int) (y::rest)=goF (ftU h w g PP cl n) (zU n) (sU n) (onB h w g) now ((i:Int)+1) rest->∀(H':Hp) (v C:Option V),Same H H'->D.nx [↑P,↑A,↑T,⇑g,↑N,⇑(i:Int),v,C,v8] H')
  (k2:goF (ftU h w g PP cl n) (zU n) (sU n) (onB h w g) now (i:Int) (y::rest)=goF (ftU h w g PP cl n) (zU n) (sU n) (onB h w g) (stL now (zU n y) (sU n y)) ((i:Int)+1) rest->onB h w g (zU n y) (sU n y)=true->∀(q:Addr) (H':Hp) (v C v8:Option V),Same H H'->H' q=↥((stL now (zU n y) (sU n y)).map V.int)->D.nx [↑P,↑A,↑T,⇑g,↑q,⇑(i:Int),v,C,v8] H')
  (k3:∀ xs,goF (ftU h w g PP cl n) (zU n) (sU n) (onB h w g) now (i:Int) (y::rest)=some xs->∀(l:Addr) (H':Hp),Same H H'->H l=none->H' l=↥(xs.map V.int)->D.rt (.ref l) H'):
  Gp K c d (n+1) D [↑P,↑A,↑T,⇑g,↑N,⇑(i:Int),↑b,some (.bl (!onB h w g (zU n y) (sU n y))),v8] H:=by
 have f:=X.P.R.F;have I:0<=h*w:=by have:=f.h0;have:=f.w0;exact Rw #[0] #[0]
 have g0:=f.g0;have xn:=X.n;have ab:=f.m;have x:=X.mm.m64 f.g0 f.g1;obtain⟨a,r',M,J⟩:=Y.parts;have W:=zj (z:=zU n y) (s:=sU n y) xn I O;rw[xH]at k1 k2 k3;unfold Gp;generalize hS:bx K c d (n+1)=S at*;rw[az];symm;rw[jJ X.A];symm;by_cases h0:(0:Int)∈now
 . rw[P4 h0];rw[Qt h0,Jq h0]at k1;exists k1 rfl H _ _ (P2 _)
 rw[P3 h0];rw[Qp h0]at k1 k2 k3;refine iteT ?_
 have e:(onB h w g (zU n y) (sU n y)&&!stB (now.getD (zU n y).toNat 0) (sU n y))=false->(tSeq (tAsg (tCall S [] E0 (tCons (tVar 0) (tCons (tVar 4) (tCons (tVar 6) tNil)))) (gName 8)) (tSeq (tIfS (tTest (tOp rNotN (tVar 8) (tC V.non))) (tRet (tOp cAdd (tLst (tCons (tVar 5) tNil)) (tVar 8))) tNext) (tAsg (tCall (cg K) [] E0 (tCons (tVar 4) (tCons (tVar 6) tNil))) (gName 4)))) D [↑P,↑A,↑T,⇑g,↑N,⇑(i:Int),↑b,some (.bl (!onB h w g (zU n y) (sU n y))),v8] H:=λE=>by
  rw[E,Qp P7]at k2 k3;subst hS;exists⟨P,L,G,N,b,h,w,g,PP,cl,now,y,F,rfl,by omega,X,O,Y,λj H1 p=>?_,λxs j l H1 p hl el=>?_⟩
  . rw[j]at k2;have on:=zg j;have o:=onB_iff.mp on;rw[on,Qc,Bool.not_eq_false']at E;symm;rw[az];exists⟨N,b,M,now,a,r',zU n y,sU n y,rfl,p _ _ X.A,by omega,p _ _ J,o.1.1,by omega,o.2.1,by omega,E,λq H2 t ac e2=>?_⟩;exact k2 rfl on q H2 _ _ _ (p.trans t) e2
  . rw[j]at k3;have xl:=uQ j;symm;rw[az];exists⟨lnR rfl,λZ hZ=>?_⟩;obtain⟨H2,z9,t,eZ⟩:=aU (.lst [V.int (i:Int)]) hZ;rw[z9];refine jC eZ (t _ _ el) (by rw[P0];show 1+_<=1000;omega) λR U=>?_;have k:=p.trans t;exact k3 _ rfl R _ (k.laid U) (k.free U) ai
 symm
 cases on:onB h w g (zU n y) (sU n y) with
 | false=>
  rw[on]at e;exists e rfl
 | true=>
  rw[on]at e W;have u:=(Ru.mp W.symm).1;exists⟨N,b,M,now,a,r',zU n y,sU n y,rfl,X.A,x,J,?_⟩;rw[u,Qc]
  cases Q:stB (now.getD (zU n y).toNat 0) (sU n y) with
  | true=>
   rw[Q]at e;exists e rfl
  | false=>
   rw[on,Q]at k1;exists k1 rfl H _ _ (P2 _)
theorem Kx {D:Ends} {N b:Addr} {now:∅} {y:TU n} {rest:List (TU n)} {bs:List Addr} {F:Addr->Prop} {i:Nat} {r z s:Int} {m j v8:Option V} (O:n<=4) (I:g<=4) (X:Fi41 H c d P L G N h w g PP cl now) (t:H T=some (.tup [.str supS,.int r,.int z,.int s,.ref B])) (p:H B=↥(bs.map V.ref)) (C:bs[i]? =some b) (Y:TrU F H n b y) (J:i<=200)
  (k1:goF (ftU h w g PP cl n) (zU n) (sU n) (onB h w g) now (i:Int) (y::rest)=goF (ftU h w g PP cl n) (zU n) (sU n) (onB h w g) now ((i:Int)+1) rest->∀(H':Hp) (m j:Option V),Same H H'->D.nx [↑P,↑A,↑T,⇑g,↑N,⇑(i:Int),m,j,v8] H')
  (k2:goF (ftU h w g PP cl n) (zU n) (sU n) (onB h w g) now (i:Int) (y::rest)=goF (ftU h w g PP cl n) (zU n) (sU n) (onB h w g) (stL now (zU n y) (sU n y)) ((i:Int)+1) rest->onB h w g (zU n y) (sU n y)=true->∀(u:Addr) (H':Hp) (m j v8:Option V),Same H H'->H' u=↥((stL now (zU n y) (sU n y)).map V.int)->D.nx [↑P,↑A,↑T,⇑g,↑u,⇑(i:Int),m,j,v8] H')
  (k3:∀ xs,goF (ftU h w g PP cl n) (zU n) (sU n) (onB h w g) now (i:Int) (y::rest)=some xs->∀(l:Addr) (H':Hp),Same H H'->H l=none->H' l=↥(xs.map V.int)->D.rt (.ref l) H'):
  Gq K c d (n+1) D [↑P,↑A,↑T,⇑g,↑N,⇑(i:Int),m,j,v8] H:=by
 have x:=X.P.R.F;have o:0<=h*w:=by have:=x.h0;have:=x.w0;exact Rw #[0] #[0]
 obtain⟨a,S,M,E⟩:=Y.parts;have Q:=zj (z:=zU n y) (s:=sU n y) X.n o I;have f:=Kw (K:=K) (A:=A) (D:=D) (v8:=v8) O I X t p C Y J k1 k2 k3;unfold Gq;generalize Gp K c d (n+1)=W at*;exists ixT t (v:=V.ref B) rfl ?_;refine ixL p (v:=V.ref b) (dS (by rw[P5,C];rfl)) ?_;exists⟨N,b,M,now,a,S,zU n y,sU n y,rfl,X.A,E,?_⟩;rw[Q]at f
 cases k:insB (now.length:Int) (zU n y) (sU n y) with
 | false=>
  rw[k]at f;symm;exact f
 | true=>
  rw[k,Qc]at f;exists ixT E (v:=V.int (sU n y)) rfl ?_;symm;have e:(!decide (sU n y<=g))=decide (g<sU n y):=by by_cases q:sU n y<=g <;> simp[q] <;> omega
  rw[e]at f;exact f
end
theorem zk(h:bx K c d (n+1) vs H Q E):fR K c d n (eD9 Q) (start ["_law_puzzle","_law_masks","_law_thought_here","_law_signs_here","_law_left","_law_k","_law_inner","_law_beyond","_law_fault_here"] vs) H:=by
 obtain⟨P,L,G,A,T,h,w,g,PP,cl,PM,x,F,rfl,n5,X,g4,Y,q⟩:=h;show fR K c d n _ [↑P,↑A,↑T,none,none,none,none,none,none] H
 match n,x,Y,q with
 | 0,(th:Tho),Y,q=>
  obtain⟨M,Y,_⟩:=(show ∃ M,IsTh H T M (Tho.t th) (Tho.r th) (Tho.z th) (Tho.s th) (Tho.ms th)/\F M from Y);exact Dt (th:=th) X Y q
 | n+1,(.inl th:Tho ⊕ _),Y,q=>
  obtain⟨M,Y,_⟩:=Y;exact Dt (th:=th) X Y q
 | n+1,(.inr (r,z,s,bk):Tho ⊕ _),Y,q=>
  obtain⟨B,bs,f,eB,fB,bl,U,tr⟩:=Y;have F0:=X.P.R.F;have ab:0<=h*w:=by have:=F0.h0;have:=F0.w0;exact Rw #[0] #[0]
  have g6:=F0.g1;have ae:=F0.m;have xn:=X.n;have q:FiQ Q H (if (decide (r=0)&&onB h w g z s&&!bk.isEmpty)=true then goF (ftU h w g PP cl n) (zU n) (sU n) (onB h w g) (supL PM z s) 0 bk else some []):=q;have bl:bs.length=bk.length:=bl;have U:bk.length<=200:=U;have f:H T=some (.tup [.str supS,.int r,.int z,.int s,.ref B]):=f;have io:=zj (z:=z) (s:=s) xn ab g4;unfold fR;generalize hW:fQ K c d (n+1)=W at*;rw[ax,az];exists ixT f (v:=V.str supS) rfl ?_;symm;subst hW;unfold fQ;generalize hW:iX K c d (n+1)=W at*;obtain⟨dx,p0,rs,h1,h2,h3⟩:=X.P.ex;exists methE (k:=.Puzzle) rfl X.P.ok h1 (by rfl) ?_;exists⟨P,L,G,h,w,g,PP,cl,rfl,X.P,λp hp=>?_⟩;exists ixT hp (v:=V.int g) rfl ?_
  have a:(decide (r=0)&&onB h w g z s&&!bk.isEmpty)=false->∀ C,Same H C->sizeLine ≥ 0/\∀ l,C l=none->Q (.ref l) (upd C l (.lst [])):=λO C j=>⟨QI _,λl D=>by
   rw[O,Qp P7]at q;exact q.2 [] rfl l _ (j.laid D) (j.free D) ai⟩
  have fin:(decide (r=0)&&onB h w g z s&&!bk.isEmpty)=true->∀ C,Same H C->W (eD9 Q) [↑P,↑A,↑T,⇑g,none,none,none,none,none] C:=λO C j=>by
   rw[O,Qt rfl]at q;have o:=onB_iff.mp (Ru.mp (Ru.mp O).1).2;subst hW;unfold iX;generalize hB:Gq K c d (n+1)=FB at*;exists iF (j _ _ X.A) λN hN=>?_;obtain⟨H2,z9,s2,eN⟩:=aU (.lst (PM.map V.int)) hN;rw[z9];have I:=j.trans s2;exists ixT (I _ _ f) (v:=V.int s) rfl ?_;exists⟨⟨by omega,by omega,by decide⟩,?_⟩;exists ixT (I _ _ f) (v:=V.int z) rfl ?_;refine B2 eN o.1.1 (by rw[P0];omega) ?_;rw[mI];have s3:Same H (upd H2 N (.lst ((PM.set z.toNat (1*2^(s-1).toNat)).map V.int))):=I.own (j.free hN);have ac:(upd H2 N (.lst ((PM.set z.toNat (1*2^(s-1).toNat)).map V.int))) N=↥((supL PM z s).map V.int):=ai;generalize upd H2 N (.lst ((PM.set z.toNat (1*2^(s-1).toNat)).map V.int))=H3 at*;exists ixT (s3 _ _ f) (v:=V.ref B) rfl ?_;rw[aO (s3 _ _ eB),P0];refine⟨_,rfl,by omega,by omega,?_⟩
   refine mQ (λi σ H'=>∃(N:Addr) (now:∅) (v5 Z v7 v8:Option V),σ=[↑P,↑A,↑T,⇑g,↑N,v5,Z,v7,v8]/\Same H H'/\H' N=↥(now.map V.int)/\now.length=(h*w).toNat/\MO g now/\goF (ftU h w g PP cl n) (zU n) (sU n) (onB h w g) (supL PM z s) 0 bk=goF (ftU h w g PP cl n) (zU n) (sU n) (onB h w g) now (i:Int) (bk.drop i))
    ⟨N,_,none,none,none,none,rfl,s3,ac,by rw[Dq];exact xn,X.mm.sup o.2.1 o.2.2,rfl⟩ ?_ ?_
   . rintro i σ H4 hi ⟨N,now,v5,Z,v7,v8,rfl,b,e4,nl,mm,u⟩;have hi:i<bs.length:=by rw[QV]at hi;exact hi
     have hb:bs[i]? =some bs[i]:=P1 hi;have hy:bk[i]? =some (bk[i]'#[0]):=P1 #[0];have ed:bk.drop i=(bk[i]'#[0])::bk.drop (i+1):=Ry #[0];rw[ed]at u;generalize (bk[i]'#[0])=y at*;rw[aP,Rs];subst hB;refine Kx (A:=A) (T:=T) (rest:=bk.drop (i+1)) #[0] g4 ⟨X.P.same b,e4,nl,mm⟩ (b _ _ f) (b _ _ eB) hb ((tr i _ y hb hy).same b) #[0] ?_ ?_ ?_
     . intro e H5 Z v7 J;exact⟨N,now,_,_,_,_,rfl,b.trans J,J _ _ e4,nl,mm,u.trans e⟩
     . intro e oy N' H5 Z v7 v8 J e5;have oy:=onB_iff.mp oy;exact⟨N',_,_,_,_,_,rfl,b.trans J,e5,by rw[rb];exact nl,mm.stL X.P.R.F.g0 g6 oy.2.1 #[0],u.trans e⟩
     . intro xs e l H5 J D el;exact q.2 xs (u.trans e) l H5 (b.trans J) (b.free D) el
   . rintro σ H4 ⟨N,now,v5,Z,v7,v8,rfl,b,e4,nl,mm,u⟩;rw[QV,bl,Sh]at u;have u:goF (ftU h w g PP cl n) (zU n) (sU n) (onB h w g) (supL PM z s) 0 bk=if (0:Int)∈now then none else some []:=u;rw[u]at q;dsimp only;rw[ax,az];symm;rw[ot e4];by_cases h0:(0:Int)∈now
     . rw[Qt h0]at q;rw[P4 h0];exists q.1 rfl H4 b
     . rw[Qp h0]at q;rw[P3 h0];exists⟨aQ #[1],λl D=>q.2 [] rfl l _ (b.laid D) (b.free D) ai⟩
  symm;rw[az];exists ixT f (v:=V.int r) rfl ?_;symm;by_cases hr:r=0
  . subst hr;rw[io]at a fin;exists⟨A,T,B,PM,supS,0,z,s,rfl,X.A,f,?_⟩
    cases S:insB (PM.length:Int) z s with
    | false=>
     rw[S]at a;refine⟨false,rfl,?_⟩;exists a (by simp) H (P2 _)
    | true=>
     rw[S]at a fin;refine⟨true,rfl,?_⟩;exists ixT f (v:=V.int s) rfl ?_;symm;by_cases hg:s<=g
     . rw[P4 hg]at a fin;rw[P3 (show ¬ g<s by omega)];exists ixT f (v:=V.ref B) rfl ?_;exists⟨aQ #[1],λe O=>?_⟩;have j:Same H (upd H e (.lst [])):=(P2 H).laid O;refine Ml (F:=F) #[0] (BkU.same ⟨eB,bl,tr⟩ j) ai ?_
       cases be:bk.isEmpty with
       | true=>
        rw[be]at a;exact⟨true,rfl,iteT (a rfl _ j)⟩
       | false=>
        rw[be]at fin;exact⟨false,rfl,iteF (fin rfl _ j)⟩
     . rw[P3 hg]at a;rw[P4 (show g<s by omega)];exists a (by simp) H (P2 _)
  . rw[P3 hr]at a;rw[P3 hr];exists a (by simp) H (P2 _)
def lH(K:Frag):Sp:=#[3,∃ m:Int,vs=[.int m]/\0<=m/\m<64/\∀(l:Addr) (a:∅) (H':Hp),Same H H'->H l=none->H' l=↥(a.map V.int)->a.length<=4->(∀ s,s∈a↔1<=s/\s<=4/\stB m s=true)->Q (.ref l) H']
def lI(K:Frag):TS:=#[":jz&--0 'gadf#1 adf#5 eh#1 mbscb'mb~R2bI1df#1 df#1 df#1 1"]
def ED{i j k l m:Nat}{x y z u v:V}{σ:St}{q:St->Hp->Prop}(h:q (((((σ.set i (some x)).set j (some y)).set k (some z)).set l (some u)).set m (some v)) H):gCons (gName i) (gCons (gName j) (gCons (gName k) (gCons (gName l) (gCons (gName m) gNil)))) [x,y,z,u,v] σ H q:=⟨x,_,rfl,y,_,rfl,z,_,rfl,u,_,rfl,v,_,rfl,rfl,h⟩
def Gr(ns:∅)(k:Int):lawCA ns k<2^64:=by
 unfold lawCA
 split
 . exact Uj (QA _ #[1]) #[1]
 . split
   . exact Uj (QA _ #[1]) #[1]
   . exact Uj (QA _ #[1]) #[1]
def mx(K:Frag):Sp:=#[3,∃ T M a r z s n,vs=[.ref T,.int n]/\H T=some (.tup [.str a,.int r,.int z,.int s,.ref M])/\0<=n/\n<2^64/\∀(b:Addr) (r z s:Int) (H':Hp),Same H H'->H b=none->H' b=some (.tup [.str a,.int r,.int z,.int s,.ref M])->Q (.ref b) H']
def LO{a b c:Int}(y:Int):∃ v:Int,atI [V.int a,V.int b,V.int c] (y%3)=some (V.int v):=by
 have e:y%3=0\/y%3=1\/y%3=2:=by omega
 rcases e with e | e | e <;> rw[e]
 . exact⟨a,rfl⟩
 . exact⟨b,rfl⟩
 . exact⟨c,rfl⟩
def LP{a b c d:Int}(y:Int):∃ v:Int,atI [V.int a,V.int b,V.int c,V.int d] (y%4)=some (V.int v):=by
 have e:y%4=0\/y%4=1\/y%4=2\/y%4=3:=by omega
 rcases e with e | e | e | e <;> rw[e]
 . exact⟨a,rfl⟩
 . exact⟨b,rfl⟩
 . exact⟨c,rfl⟩
 . exact⟨d,rfl⟩
def gn(K:Frag):TS:=#[":jOa2a3a4a5a6e"]
def gp(K:Frag):TS:=#[":gombsc8df#2 l9h#3 p_gc"]
def gq(K:Frag):TS:=#[":gombsc8df#1 lbiua9adf#0 adf#5 ebAbL1df#24 df#3 h#5 p_hc"]
def jy(K:Frag):TS:=#[":gombsc8df#0 l9h#4 p_ic"]
def my(K:Frag):TS:=#[":gl0?c#5 Mh#2 Mh#3 Mh#4 Mh#5 Mh#6 [glbvdf#17 bAbUbU111b_jdf#10 df#59 h#7 glbA1df#6 h#8 glbiua~*`0df#1 adf#99 a7abIdf#0 7ebAbL1df#6 df#4 h#9 _kc",(rU λi=>.int (-i))]
variable{a:Str}
def Fm{f v1 e v8 d:Option V}{r:Int}(q:∀(b:Addr) (r z s:Int) (H':Hp),Same H H'->H b=none->H' b=some (.tup [.str a,.int r,.int z,.int s,.ref M])->Q (.ref b) H'):
  gn K (eD9 Q) [f,v1,some (.str a),⇑r,⇑z,⇑s,↑M,e,v8,d] H:=by
 unfold gn;exists⟨lnR rfl,λb c=>q b r z s _ ((P2 H).laid c) c ai⟩
def Fo{d v1 e:Option V}{r y o:Int}(q:∀(b:Addr) (r z s:Int) (H':Hp),Same H H'->H b=none->H' b=some (.tup [.str a,.int r,.int z,.int s,.ref M])->Q (.ref b) H'):
  gp K (eD9 Q) [d,v1,some (.str a),⇑r,⇑z,⇑s,↑M,e,⇑y,⇑o] H:=by
 unfold gp;generalize c:gn K=W at*;rw[ax,az];symm;by_cases h:y=2
 . rw[P4 h];symm;subst c;exact Fm q
 . rw[P3 h];symm;subst c;exact Fm q
def Fp{u j:Option V}{r n y o:Int}(x:0<=n)(q:∀(d:Addr) (r z s:Int) (H':Hp),Same H H'->H d=none->H' d=some (.tup [.str a,.int r,.int z,.int s,.ref M])->Q (.ref d) H'):
  gq K (eD9 Q) [u,⇑n,some (.str a),⇑r,⇑z,⇑s,↑M,j,⇑y,⇑o] H:=by
 unfold gq;generalize g:gp K=W at*;rw[ax,az];symm;by_cases h:y=1
 . rw[P4 h];exists⟨lnR rfl,λU k=>?_⟩;obtain⟨w,i,f,p⟩:=aU (.lst [V.int o,V.int 0,V.int 5]) k;rw[i];exists⟨⟨by decide,by decide⟩,by decide,?_⟩;obtain⟨v,t⟩:=LO (a:=o) (b:=0) (c:=5) (n/24);refine ixL p t ?_;symm;subst g;exact Fo λd r z s H' m l e=>q d r z s H' (f.trans m) (f.free l) e
 . rw[P3 h];symm;subst g;exact Fo q
def Au(h:mx K vs H Q E):my K (eD9 Q) (start ["_law_thought_here","_law_number","_law_kind","_law_rule_here","_law_cell","_law_sign","_law_more_here","_law_far","_law_way","_law_odd"] vs) H:=by
 obtain⟨T,M,a,r,z,s,n,rfl,u,m,k,q⟩:=h;ac_nf;unfold my;generalize i:jy K=W at*;exists ox u rfl (ED ?_);exists⟨.inr ⟨by omega,k⟩,?_⟩;refine⟨.inr ⟨by omega,k⟩,?_⟩;refine⟨⟨by decide,by decide,by decide⟩,?_⟩;refine⟨by decide,?_⟩;generalize 17+n*n*n%10^(59:Int).toNat=f;refine⟨by decide,?_⟩;refine⟨lnR rfl,λU v=>?_⟩;obtain⟨l,t,p,y⟩:=aU (.lst [V.int (-1),V.int 99,V.int f,V.int (0-f)]) v;rw[t];refine⟨⟨by decide,by decide⟩,by decide,?_⟩;obtain⟨o,A⟩:=LP (a:= -1) (b:=99) (c:=f) (d:=0-f) (n/6);refine ixL y A ?_;symm;have j:∀(g:Addr) (r z s:Int) (H':Hp),Same l H'->l g=none->H' g=some (.tup [.str a,.int r,.int z,.int s,.ref M])->Q (.ref g) H':=λg r z s H' x w e=>q g r z s H' (p.trans x) (p.free w) e;subst i;unfold jy;generalize i:gq K=W at*;rw[ax,az];symm;by_cases h:n%6=0
 . rw[P4 h];symm;subst i;exact Fp m j
 . rw[P3 h];symm;subst i;exact Fp m j
def inAt(n:Nat)(bk:List (TU (n+1)))(i:Nat):List (TU n):=match bk[i]? with
 | some (.inr p:Tho ⊕ (Int × Int × Int × List (TU n)))=>p.2.2.2
 | _=>[]
def supAt(n:Nat)(bk:List (TU (n+1)))(i:Nat):Bool:=match bk[i]? with
 | some (.inr _:Tho ⊕ (Int × Int × Int × List (TU n)))=>true
 | _=>false
def manyU:(n:Nat)->List (TU n)->Int
 | 0,bk=>(bk.length:Int)
 | n+1,bk=>(((List.range bk.length).filter λi=>supAt n bk i).map λi=>1+manyU n (inAt n bk i)).sum+(bk.length:Int)
def LnU:(n:Nat)->TU n->Prop
 | 0,(_:Tho)=>True
 | _+1,(.inl _:Tho ⊕ _)=>True
 | n+1,(.inr p:Tho ⊕ _)=>p.2.2.2.length<=200/\∀ y∈p.2.2.2,LnU n y
theorem TrU.ln{F:Addr->Prop}:∀{n:Nat} {T:Addr} {x:TU n},TrU F H n T x->LnU n x
 | 0,_,(_:Tho),_=>trivial
 | _+1,_,(.inl _:Tho ⊕ _),_=>trivial
 | n+1,_,(.inr p:Tho ⊕ _),⟨B,bs,_,_,_,l,l2,tr⟩=>⟨l2,λy b=>by
   obtain⟨i,a,e⟩:=List.getElem_of_mem b;exact(tr i (bs[i]'#[0]) y (P1 #[0]) (by rw[P1 a,e])).ln⟩
def bdU:Nat->Int
 | 0=>200
 | n+1=>200*(1+bdU n)+200
theorem Du{B:Int}(a:0<=B):∀{l:∅},(∀ x∈l,0<=x/\x<=B)->0<=l.sum/\l.sum<=(l.length:Int)*B
 | [],_=>⟨Int.le_refl _,by simp⟩
 | x::l,h=>by
  have h1:=Du a λy b=>h y (.tail _ b);have h2:=h x (.head _);rw[Ua,QC];have e:((l.length+1:Nat):Int)*B=(l.length:Int)*B+B:=by rw[Int.natCast_add,Int.add_mul];simp
  omega
theorem JD:∀ n,0<=bdU n
 | 0=>by decide
 | n+1=>by have:=JD n;unfold bdU;omega
def Ih{bk:List (TU (n+1))}{i:Nat}(L:∀ x∈bk,LnU (n+1) x):(inAt n bk i).length<=200/\∀ y∈inAt n bk i,LnU n y:=by
 unfold inAt
 split
 . rename_i p e
   exact L _ (Qi e)
 . exact⟨QI _,λy a=>nomatch a⟩
theorem Fq:∀{n:Nat} {bk:List (TU n)},bk.length<=200->(∀ x∈bk,LnU n x)->0<=manyU n bk/\manyU n bk<=bdU n
 | 0,bk,l,_=>by unfold manyU bdU;omega
 | n+1,bk,l,L=>by
  have b:=JD n
  have h:=Du (B:=1+bdU n) #[0] (l:=((List.range bk.length).filter λi=>supAt n bk i).map λi=>1+manyU n (inAt n bk i)) λx a=>by
   obtain⟨i,_,rfl⟩:=Qe.mp a;have z:=Ih (i:=i) L;have:=Fq z.1 z.2;omega
  have c:(((List.range bk.length).filter λi=>supAt n bk i).map λi=>1+manyU n (inAt n bk i)).length<=200:=by
   rw[P0];refine Qa (Qk _ _) ?_;rw[QU];exact l
  have d:((((List.range bk.length).filter λi=>supAt n bk i).map λi=>1+manyU n (inAt n bk i)).length:Int)*(1+bdU n)<=200*(1+bdU n):=Int.mul_le_mul_of_nonneg_right #[0] #[0];unfold manyU bdU;omega
def LQ(n:Nat)(K:Frag):Sp:=#[3,∃(B:Addr) (b:List Addr) (a:List (TU n)) (F:Addr->Prop),vs=[.ref B]/\n<=2/\BkU F H n B b a/\a.length<=200/\∀ H',Same H H'->Q (.int (manyU n a)) H']
def de(K:Frag):Nat->Sp
 | 0=>λ_ _ _ _=>False
 | n+1=>LQ n K
def Av(h:de K 0 vs H Q E):False:=h
theorem Aw(h:de K n vs H Q E):vs.length=1:=by
 cases n with
 | zero=>exact h.elim
 | succ n=>obtain⟨_,_,_,_,rfl,_⟩:=h;rfl
def mB(K:Frag)(n:Nat):TS:=#[":jbvn~Iaz&-- yc0h#1 mbscbi1df#0 dqr`0bvdf#1 ,'ScYabi1df#4 eenxa0e",[115,117,112,112,111,115,101]]
theorem Ax(h:de K (n+1) vs H Q E):mB K n (eD9 Q) (start ["_law_book"] vs) H:=by
 obtain⟨B,D,a,F,rfl,W,X,I,q⟩:=h;show mB K n _ [↑B] H;have bl:=X.len;unfold mB;exists⟨⟨_,Qh X.top⟩,?_⟩
 match n,a,X,I,q with
 | 0,a,X,I,q=>
  refine bM (xs:=D.map V.ref) (λ_=>false) (λ_=>V.int 0) (by rw[P0];omega) (Qh X.top) ?_ ?_ ?_
  . intro i x o J d g k4;obtain⟨T,j,rfl⟩:=bL d;have A:=(P8.mp j).1;have k:a[i]? =some (a[i]'#[0]):=P1 #[0];obtain⟨M,Y,_⟩:=(show ∃ M,IsTh H T M (Tho.t (a[i]'#[0])) (Tho.r (a[i]'#[0])) (Tho.z (a[i]'#[0])) (Tho.s (a[i]'#[0])) (Tho.ms (a[i]'#[0]))/\F M from X.tr i T _ j k);show tTest _ [none,↑T] o J;exists ixT (g _ _ Y.T) (v:=V.str (tx (tkC (Tho.t (a[i]'#[0]))))) rfl ?_;symm;rw[sY];exact k4 _ (P2 _)
  . intro i x o N d c g k4;cases c
  . intro l G U w u;rw[List.filter_eq_nil_iff.mpr (λ_ _=>P7)]at u;refine vR (ns:=[]) u (λx d=>nomatch d) (QI _) ?_;rw[aO (w _ _ X.top),P0,bl];symm;have e:([]:∅).sum+(a.length:Int)=manyU 0 a:=by unfold manyU;simp
    rw[e];exact q G w
 | n+1,a,X,I,q=>
  have L:∀ x∈a,LnU (n+1) x:=λx d=>by
   obtain⟨i,A,e⟩:=List.getElem_of_mem d;exact(X.tr i (D[i]'#[0]) x (P1 #[0]) (by rw[P1 A,e])).ln
  refine bM (xs:=D.map V.ref) (λi=>supAt n a i) (λi=>V.int (1+manyU n (inAt n a i))) (by rw[P0];omega) (Qh X.top) ?_ ?_ ?_
  . intro i x o J d g k4;obtain⟨T,j,rfl⟩:=bL d;have A:=(P8.mp j).1;have k:a[i]? =some (a[i]'#[0]):=P1 #[0];have Y:=X.tr i T _ j k;unfold supAt at k4;rw[k]at k4;generalize (a[i]'#[0])=y at*;show tTest _ [none,↑T] o J;symm
    match y,Y,k4 with
    | (.inl th:Tho ⊕ _),Y,k4=>
     obtain⟨M,Y,_⟩:=Y;refine ixT (g _ _ Y.T) (v:=V.str (tx (tkC th.t))) rfl ?_;symm;rw[sY];exact k4 _ (P2 _)
    | (.inr p:Tho ⊕ _),Y,k4=>
     obtain⟨C,cs,e1,_⟩:=Y;refine ixT (g _ _ e1) (v:=V.str supS) rfl ?_;exists k4 _ (P2 _)
  . intro i x o N d c g k4;obtain⟨T,j,rfl⟩:=bL d;have A:=(P8.mp j).1;have k:a[i]? =some (a[i]'#[0]):=P1 #[0];have Y:=X.tr i T _ j k;unfold supAt at c;unfold inAt at k4;rw[k]at k4 c;generalize (a[i]'#[0])=y at*;show tOp cAdd _ _ [none,↑T] o N;symm
    match y,Y,k4,c with
    | (.inl th:Tho ⊕ _),Y,k4,c=>cases c
    | (.inr p:Tho ⊕ _),Y,k4,c=>
     obtain⟨C,cs,e1,e2,f,l,P,R⟩:=Y;refine ixT (g _ _ e1) (v:=V.ref C) rfl ?_;refine⟨C,cs,p.2.2.2,F,rfl,by omega,BkU.same ⟨e2,l,R⟩ g,P,λO S=>?_⟩;exists k4 O S
  . intro l G U w u;have e:((List.range (D.map V.ref).length).filter λi=>supAt n a i).map (λi=>V.int (1+manyU n (inAt n a i)))=(((List.range a.length).filter λi=>supAt n a i).map λi=>1+manyU n (inAt n a i)).map V.int:=by rw[P0,bl,QO];rfl
    rw[e]at u;refine vR u (λx d=>?_) ?_ ?_
    . obtain⟨i,_,rfl⟩:=Qe.mp d;have z:=Ih (i:=i) L;have m:=Fq z.1 z.2
      have b:bdU n<=40400:=by
       have e:n=0\/n=1:=by omega
       rcases e with rfl | rfl <;> decide
      omega
    . rw[P0];refine Qa (Qk _ _) ?_;rw[QU];omega
    . rw[aO (w _ _ X.top),P0,bl];exists q G w
structure Ms(K:Frag)(H:Hp)(c:Uk)(d:Ul)(a P L G p Rl gr W:Addr)(ts Cs:List Addr)(ns:∅)(h w g:Int)(PP:List RR)(cl PM:∅):Prop where
 wd:Wd40 K H c d a P L G p Rl ts Cs ns h w g PP cl
 gr:H gr=some (.tup [.ref P,.ref p,.ref Rl])
 W:H W=↥(PM.map V.int)
 ml:PM.length=(h*w).toNat
 mm:MO g PM
def MdP(n:Nat)(Q:VK)(H:Hp):Prop:=∀(B:Addr) (H':Hp) (c:List Addr) (a:List (TU n)),Same H H'->H B=none->BkU (λb=>H b=none/\b≠B) H' n B c a->a.length<=24->Q (.ref B) H'
def LR(n:Nat)(K:Frag)(c:Uk)(d:Ul):Sp:=#[3,∃(a P L G p f e W:Addr) (ts Cs:List Addr) (ns:∅) (h w g:Int) (PP:List RR) (cl PM:∅) (u b:Int),vs=[.ref a,.int u,.int b,.int (n:Int),.ref e,.ref W]/\n<=2/\Ms K H c d a P L G p f e W ts Cs ns h w g PP cl PM/\0<=u/\u+1000*(n:Int)<=3000/\0<=b/\b<=24/\MdP n Q H]
def df(K:Frag)(c:Uk)(d:Ul):Nat->Sp
 | 0=>λ_ _ _ _=>False
 | n+1=>LR n K c d
def Ay(h:df K c d 0 vs H Q E):False:=h
theorem Az(h:df K c d n vs H Q E):vs.length=6:=by
 cases n with
 | zero=>exact h.elim
 | succ n=>obtain⟨_,_,_,_,_,_,_,_,_,_,_,_,_,_,_,_,_,_,_,rfl,_⟩:=h;rfl
def Gs(K:Frag)(c:Uk)(d:Ul)(n:Nat):TS:=#[":oBmbscbA|cdf#8 df#6 BmbscbA|cdf#8 df#7 WmbNcPdf#0 9Wmb~q|jdSw,~]ca9a|degZRcQ:|aa|deoWw,~]ca9a|demb~q|jdSl,'sca9a|deh#9 pp"]
def Dv(K:Frag)(c:Uk)(d:Ul)(n:Nat):TS:=#[":gl,~^ckt`0a6a9a|deh#19 _lcktY",(n+1)]
def Dw(K:Frag)(c:Uk)(d:Ul)(n:Nat):TS:=#[":goWmb>bA|cdf#8 df#5 mbscbAbL|cdf#512 df#3 df#1 l,_mca|dabL|cdf#1536 eh#13 p_ncktY"]
def Gu(K:Frag)(c:Uk)(d:Ul)(n:Nat):TS:=#[":goWmbscbA|cdf#8 df#7 Wmb>3df#0 mbEcbi9bi|ddf#2 df#0 gl,_ocabi9bi|ddf#2 eh#14 glbi|ebAbL|cdf#8 nxa|eeh#15 gln+a9eh#16 glb~Mdf#1 bI|fdf#1 ~?|gbi|ddf#2 ~[glbAbL|cdf#64 bUdf#3 3h#17 gl,'TcktYa0abv1bUdf#41 bv|bdf#1 a|habI3df#1 a4a|geh#18 lOadqr`0adf#0 abi|ddf#2 a|fa|ieh#13 p_pcktY",[115,117,112,112,111,115,101]]
def Gv(K:Frag)(c:Uk)(d:Ul)(n:Nat):TS:=#[":gl,~jca0abv1|beh#12 gl,_qcabL|cdf#8 a7a8a9eh#13 _rcktY"]
def mC(K:Frag)(c:Uk)(d:Ul)(n:Nat):TS:=#[":gl4?c#3 Mh#6 Mh#7 Mh#8 [gln+a5eh#9 glueh#10 gT*a2eh#11 _scktYj|a"]
structure Lp41(n:Nat)(H0 H:Hp)(A B:Addr)(h w g:Int)(bs:List Addr)(bk:List (TU n))(PM:∅)(i:Nat):Prop where
 sm:Same H0 H
 eA:H A=↥(PM.map V.int)
 fB:H0 B=none
 b:BkU (λb=>H0 b=none/\b≠B) H n B bs bk
 ln:bk.length<=i
 ml:PM.length=(h*w).toNat
 mm:MO g PM
section
variable{n:Nat}{K:Frag}{c:Uk}{d:Ul}{H0 H H':Hp}{Q:VK}{a P L G p Rl gr W A B T:Addr}{ts Cs bs:List Addr}{ns:∅}{h w g:Int}{PP:List RR}{cl m0 PM:∅}{bk:List (TU n)}{x:TU n}
def Lp41.same{i j:Nat}(x:Lp41 n H0 H A B h w g bs bk PM i)(s:Same H H')(a:i<=j):Lp41 n H0 H' A B h w g bs bk PM j:=⟨x.sm.trans s,s _ _ x.eA,x.fB,x.b.same s,Qa x.ln a,x.ml,x.mm⟩
def Lp41.new{i:Nat}(x:Lp41 n H0 H A B h w g bs bk PM i){b:Addr}(a:H b=none):H0 b=none/\b≠B:=⟨x.sm.free a,λe=>by rw[e,x.b.top]at a;cases a⟩
def Lp41.app{i:Nat}(X:Lp41 n H0 H A B h w g bs bk PM i)(a:A≠B)(Y:TrU (λb=>H0 b=none/\b≠B) H n T x):Lp41 n H0 (upd H B (.lst (bs.map V.ref++[V.ref T]))) A B h w g (bs++[T]) (bk++[x]) PM (i+1):=by
 have bl:=X.b.len;refine⟨X.sm.own X.fB,by rw[ap a];exact X.eA,X.fB,⟨by rw[ai,Re];rfl,by rw[Qn,Qn,bl];rfl,λj b y h1 h2=>TrU.put ?_ X.b.top λq=>q.2 rfl⟩,by rw[Qn];exact SO X.ln,X.ml,X.mm⟩;by_cases d:j<bs.length
 . rw[QM d]at h1;rw[QM #[0]]at h2;exact X.b.tr j b y h1 h2
 . rw[QS #[0]]at h1;rw[QS #[0]]at h2;have c:j-bs.length=0:=by have:=(P8.mp h1).1;simp at this;omega
   rw[c]at h1;rw[← bl,c]at h2;cases h1;cases h2;exact Y
theorem Fr {D:Ends} {i:Nat} {E v1 N C z G L v8 v11 f q l j p:Option V} {a:Int} {v:V} (F:FlOk h w g) (X:Lp41 n H0 H A B h w g bs bk PM i) (s:A≠B) (hi:i<=24) (Y:TrU (λb=>H0 b=none/\b≠B) H n T x)
  (k:∀(A:Addr) (bs:List Addr) (bk:List (TU n)) (PM:∅) (H':Hp),Lp41 n H0 H' A B h w g bs bk PM (i+1)->A≠B->D.nx [E,v1,N,C,z,G,↑P,L,v8,↑A,↑B,v11,⇑a,↑T,f,q,l,j,p,some v] H'):
  Gs K c d n D [E,v1,N,C,z,G,↑P,L,v8,↑A,↑B,v11,⇑a,↑T,f,q,l,j,p,some v] H:=by
 have J:=X.mm.m64 F.g0 F.g1;have g6:=F.g1;have ml:=X.ml;have ln:=X.ln;have U:=F.m;have bl:=X.b.len;obtain⟨Q,r,M,O⟩:=Y.parts;have skip:∀ y,Same H y->D.nx [E,v1,N,C,z,G,↑P,L,v8,↑A,↑B,v11,⇑a,↑T,f,q,l,j,p,some v] y:=λy s2=>k A bs bk PM y (X.same s2 (R5 i)) s
 have u:(tSeq (tDrop (tBM K "list" cj (tVar 10) (tCons (tVar 13) tNil))) (tIfS (tAnd (tB (tCall (cf K) [] E0 (tCons (tVar 9) (tCons (tVar 13) tNil)))) (tTest (tOp rIsN (tVar 19) (tC .non)))) (tAsg (tCall (cg K) [] E0 (tCons (tVar 9) (tCons (tVar 13) tNil))) (gName 9)) tNext)) D [E,v1,N,C,z,G,↑P,L,v8,↑A,↑B,v11,⇑a,↑T,f,q,l,j,p,some v] H:=by
  exists⟨cC X.b.top,?_⟩;rw[lZ X.b.top];refine⟨by rw[P0];exact aL #[0],?_⟩;have t:=X.app s Y
  have I:(upd H B (.lst (bs.map V.ref++[V.ref T]))) T=some (.tup [.str Q,.int r,.int (zU n x),.int (sU n x),.ref M]):=by
   rw[ap λe=>by rw[e,X.b.top]at O;cases O];exact O
  generalize upd H B (.lst (bs.map V.ref++[V.ref T]))=y at*;have done:D.nx [E,v1,N,C,z,G,↑P,L,v8,↑A,↑B,v11,⇑a,↑T,f,q,l,j,p,some v] y:=k A _ _ PM y t s;rw[az];exists⟨A,T,M,PM,Q,r,zU n x,sU n x,rfl,t.eA,J,I,?_⟩
  cases e:(insB (PM.length:Int) (zU n x) (sU n x)&&stB (PM.getD (zU n x).toNat 0) (sU n x)) with
  | false=>
   refine⟨false,rfl,?_⟩;symm;exact done
  | true=>
   refine⟨true,rfl,iteT ?_⟩;have e2:=Ru.mp e;have o:=insB_iff.mp e2.1;symm
   cases W:decide (v=V.non) with
   | false=>
    symm;exact done
   | true=>
    exists⟨A,T,M,PM,Q,r,zU n x,sU n x,rfl,t.eA,by omega,I,o.1.1,o.1.2,o.2.1,by omega,e2.2,λA' H3 R S Z=>?_⟩;refine k A' _ _ _ H3 ⟨t.sm.trans R,Z,X.fB,t.b.same R,t.ln,by rw[rb];exact ml,X.mm.stL F.g0 g6 o.2.1 #[0]⟩ λe=>?_;rw[e,t.b.top]at S;cases S
 unfold Gs;rw[az];exists⟨by decide,?_⟩;by_cases h6:a%8=6
 . rw[P4 h6];symm;exact u
 rw[P3 h6];exists⟨by decide,?_⟩;by_cases h7:a%8=7
 . rw[P4 h7];symm;exact u
 rw[P3 h7];symm;rw[jJ X.eA];symm
 cases e0:decide ((0:Int)∈PM) with
 | true=>
  exists skip H (P2 _)
 | false=>
  symm
  cases W:decide (v=V.non) with
  | false=>
   exists skip H (P2 _)
  | true=>
   exists⟨A,T,M,PM,Q,r,zU n x,sU n x,rfl,X.eA,J,O,?_⟩
   cases e:(insB (PM.length:Int) (zU n x) (sU n x)&&stB (PM.getD (zU n x).toNat 0) (sU n x)) with
   | false=>
    refine⟨false,rfl,?_⟩;exists skip H (P2 _)
   | true=>
    refine⟨true,rfl,iteT ?_⟩;exact u
theorem TrU.bend{F:Addr->Prop}{H:Hp}:∀{n:Nat} {T:Addr} {x:TU n},TrU F H n T x->∃(a:Str) (r z s:Int) (M:Addr),H T=some (.tup [.str a,.int r,.int z,.int s,.ref M])/\∀(c:Addr) (r z s:Int) (H':Hp),Same H H'->H' c=some (.tup [.str a,.int r,.int z,.int s,.ref M])->∃ g:TU n,TrU F H' n c g
 | 0,_,(th:Tho),⟨M,Y,f⟩=>⟨_,_,_,_,M,Y.T,λc r z s H' e1 e2=>⟨(⟨Tho.t th,r,z,s,Tho.ms th⟩:Tho),M,⟨e2,e1 _ _ Y.M,Y.n⟩,f⟩⟩
 | _+1,_,(.inl th:Tho ⊕ _),⟨M,Y,f⟩=>⟨_,_,_,_,M,Y.T,λc r z s H' e1 e2=>⟨(.inl (⟨Tho.t th,r,z,s,Tho.ms th⟩:Tho):Tho ⊕ _),M,⟨e2,e1 _ _ Y.M,Y.n⟩,f⟩⟩
 | n+1,_,(.inr p:Tho ⊕ _),⟨B,bs,e1,e2,f,l,l2,tr⟩=>⟨_,_,_,_,B,e1,λc r z s H' d e=>⟨(.inr (r,z,s,p.2.2.2):Tho ⊕ _),B,bs,e,d _ _ e2,f,l,l2,λi b y h1 h2=>(tr i b y h1 h2).same d⟩⟩
def Fs {D:Ends} {i:Nat} {I v1 O E C J N v8 v11 f r m j o q:Option V} {t:Int} (U:n<=2) (v:Wd40 K H c d a P L G p Rl ts Cs ns h w g PP cl) (X:Lp41 n H0 H A B h w g bs bk PM i) (s:A≠B) (y:i<=24) (Y:TrU (λb=>H0 b=none/\b≠B) H n T x)
  (k:∀(A T:Addr) (bs:List Addr) (bk:List (TU n)) (PM:∅) (H':Hp) (f r m j o q:Option V),Lp41 n H0 H' A B h w g bs bk PM (i+1)->A≠B->D.nx [I,v1,O,E,C,J,↑P,N,v8,↑A,↑B,v11,⇑t,↑T,f,r,m,j,o,q] H'):
  Dv K c d n D [I,v1,O,E,C,J,↑P,N,v8,↑A,↑B,v11,⇑t,↑T,f,r,m,j,o,q] H:=by
 unfold Dv;generalize M:Gs K c d n=W at*;exists⟨P,L,G,A,T,h,w,g,PP,cl,PM,x,_,rfl,by omega,⟨v.P,X.eA,X.ml,X.mm⟩,v.g4,Y,λS Q u=>?_,λxs S l Q u Z el=>?_⟩
 . symm;subst M;exact Fr v.P.R.F (X.same u (Qd _)) s y (Y.same u) λA bs bk ms H' z e=>k A T bs bk ms H' _ _ _ _ _ _ z e
 . symm;subst M;exact Fr v.P.R.F (X.same u (Qd _)) s y (Y.same u) λA bs bk ms H' z e=>k A T bs bk ms H' _ _ _ _ _ _ z e
theorem Ft {D:Ends} {i:Nat} {C v1 J y v E F v8 v11 j t m l o q:Option V} {e:Int} (Q:n<=2) (R:Wd40 K H c d a P L G p Rl ts Cs ns h w g PP cl) (X:Lp41 n H0 H A B h w g bs bk PM i) (u:A≠B) (O:i<=24) (n0:0<=e) (ab:e<2^64) (Y:TrU (λb=>H0 b=none/\b≠B) H n T x)
  (k:∀(A T:Addr) (bs:List Addr) (bk:List (TU n)) (PM:∅) (H':Hp) (j t m l o q:Option V),Lp41 n H0 H' A B h w g bs bk PM (i+1)->A≠B->D.nx [C,v1,J,y,v,E,↑P,F,v8,↑A,↑B,v11,⇑e,↑T,j,t,m,l,o,q] H'):
  Dw K c d n D [C,v1,J,y,v,E,↑P,F,v8,↑A,↑B,v11,⇑e,↑T,j,t,m,l,o,q] H:=by
 have f:Dv K c d n D [C,v1,J,y,v,E,↑P,F,v8,↑A,↑B,v11,⇑e,↑T,j,t,m,l,o,q] H:=Fs Q R X u O Y k;unfold Dw;generalize hW:Dv K c d n=W at*;rw[ax,az];exists⟨by decide,?_⟩
 cases e1:decide (5<e%8) with
 | false=>
  symm;exact f
 | true=>
  exists⟨⟨by decide,by decide⟩,by decide,?_⟩
  cases e2:decide (e/512%3=1) with
  | false=>
   symm;exact f
  | true=>
   obtain⟨Z,r,z,s,M,S,mk⟩:=Y.bend;exists⟨⟨by decide,by decide⟩,?_⟩;refine⟨T,M,Z,r,z,s,e/1536,rfl,S,by omega,by omega,λT' r' z' s' H1 N ac I=>?_⟩;obtain⟨x',U⟩:=mk T' r' z' s' H1 N I;subst hW;exact Fs Q (R.same N) (X.same N (Qd _)) u O U k
end
def Jr:((List.range 15).all λm=>(List.range 4).any λo=>stB ((m:Int)+1) ((o:Int)+1))=true:=by decide+kernel
def Ii{m:Int}(c:0<m)(b:m<16):∃ s,1<=s/\s<=4/\stB m s=true:=by
 obtain⟨k,rfl⟩:∃ k:Nat,m=(k:Int)+1:=⟨(m-1).toNat,by omega⟩;obtain⟨o,a,e⟩:=RZ.mp (Qj.mp Jr k (Qf.mpr #[0]));have:=Qf.mp a;exact⟨(o:Int)+1,by omega,by omega,e⟩
def Mm(b:1<=g)(a:g<=4):(2:Int)^g.toNat<=16:=by
 have e:g=1\/g=2\/g=3\/g=4:=by omega
 rcases e with rfl | rfl | rfl | rfl <;> decide
section
variable{n:Nat}{K:Frag}{c:Uk}{d:Ul}{H0 H H':Hp}{Q:VK}{a P L G p Rl gr W A B T:Addr}{ts Cs bs:List Addr}{ns:∅}{h w g:Int}{PP:List RR}{cl m0 PM:∅}{bk:List (TU n)}{x:TU n}
def LS(n:Nat)(D:Ends)(H0:Hp)(a P p Rl gr W B:Addr)(h w g:Int)(u m:Int)(i:Nat):Prop:=∀(A:Addr) (bs:List Addr) (bk:List (TU n)) (PM:∅) (H':Hp) (l f b k e d j c:Option V),Lp41 n H0 H' A B h w g bs bk PM (i+1)->A≠B->D.nx [↑a,⇑u,⇑m,⇑(n:Int),↑gr,↑W,↑P,↑p,↑Rl,↑A,↑B,⇑(i:Int),l,f,b,k,e,d,j,c] H'
theorem Ky {D:Ends} {i:Nat} {q O E C I J:Option V} {l u sz:Int} {z:Int} {na:Str} {r s:Int} {M:Addr} (n2:n<=2) (wd:Wd40 K H c d a P L G p Rl ts Cs ns h w g PP cl) (eg:H gr=some (.tup [.ref P,.ref p,.ref Rl])) (X:Lp41 n H0 H A B h w g bs bk PM i) (ab:A≠B) (hi:i<24) (n0:0<=l) (ag:l<2^64) (u0:0<=u) (u1:u+1000*(n:Int)<=3000) (Y:TrU (λb=>H0 b=none/\b≠B) H n T x) (eT:H T=some (.tup [.str na,.int r,.int z,.int s,.ref M])) (z0:0<=z) (z1:z<h*w)
  (k:LS n D H0 a P p Rl gr W B h w g u sz i):
  Gu K c d n D [↑a,⇑u,⇑sz,⇑(n:Int),↑gr,↑W,↑P,↑p,↑Rl,↑A,↑B,⇑(i:Int),⇑l,↑T,q,O,E,C,I,J] H:=by
 have F:=wd.P.R.F;have g4:=wd.g4;have g0:=F.g0;have ar:=F.m;have ml:=X.ml;have o:Dw K c d n D [↑a,⇑u,⇑sz,⇑(n:Int),↑gr,↑W,↑P,↑p,↑Rl,↑A,↑B,⇑(i:Int),⇑l,↑T,q,O,E,C,I,J] H:=Ft n2 wd X ab #[0] n0 ag Y λA T bs bk ms H' q O E C I J zz e=>k A bs bk ms H' _ _ _ _ _ _ _ _ zz e;unfold Gu;generalize hW:Dw K c d n=W' at*;rw[ax,az];exists⟨by decide,?_⟩
 cases e1:decide (l%8=7) with
 | false=>
  symm;exact o
 | true=>
  symm
  cases e2:decide ((0:Int) < (n:Int)) with
  | false=>
   symm;exact o
  | true=>
   exists ixT eT (v:=V.int z) rfl ?_;refine ixI X.eA z0 #[0] ?_;symm;have hz:z.toNat<PM.length:=by omega
   have bm:=X.mm _ (ce (ms:=PM) (k:=z.toNat) hz);have af:=X.mm.m64 F.g0 F.g1 _ (ce (ms:=PM) (k:=z.toNat) hz);have au:=Mm g0 g4;by_cases em:PM.getD z.toNat 0=0
   . rw[P4 em];symm;exact o
   rw[P3 em];obtain⟨m,rfl⟩:∃ m,n=m+1:=⟨n-1,by have:=Qw e2;omega⟩;exists ixT eT (v:=V.int z) rfl ?_;refine ixI X.eA z0 #[0] ?_;refine⟨_,rfl,af.1,af.2,λSl Q H1 s1 hS eS sl sm=>?_⟩;obtain⟨s',aq⟩:=Ii (m:=PM.getD z.toNat 0) #[0] #[0];have sp:0<Q.length:=TL ((sm s').mpr aq);exists⟨⟨by decide,by decide⟩,?_⟩;rw[aO eS,P0];have i0:=QK (l/8) (show(Q.length:Int)≠0 by omega);have i1:=QA (l/8) (show(0:Int)<Q.length by omega);refine⟨by omega,?_⟩;refine ixI eS i0 i1 ?_;have st:=(sm _).mp (ce (ms:=Q) (k:=(l/8 % (Q.length:Int)).toNat) #[0]);generalize Q.getD (l/8 % (Q.length:Int)).toNat 0=t at*;have tg:=X.mm.st F.g0 F.g1 hz st.2.2;have tb:=Gn (g:=g) (s:=t) st.1 tg;refine iF (s1 _ _ X.eA) λN hN=>?_;obtain⟨H2,z9,s2,eN⟩:=aU (.lst (PM.map V.int)) hN;rw[z9];have ak:=s1.trans s2;exists⟨⟨by omega,by omega,by decide⟩,?_⟩;exists ixT (ak _ _ eT) (v:=V.int z) rfl ?_;refine B2 eN z0 (by rw[P0];omega) ?_;rw[mI];have s3:Same H (upd H2 N (.lst ((PM.set z.toNat (1*2^(t-1).toNat)).map V.int))):=ak.own (s1.free hN);have e3:(upd H2 N (.lst ((PM.set z.toNat (1*2^(t-1).toNat)).map V.int))) N=↥((PM.set z.toNat (1*2^(t-1).toNat)).map V.int):=ai;generalize upd H2 N (.lst ((PM.set z.toNat (1*2^(t-1).toNat)).map V.int))=H3 at*;have q0:=QK (l/64) (show 3*((m+1:Nat):Int)≠0 by omega);have q1:=QA (l/64) (show 0<3*((m+1:Nat):Int) by omega);refine⟨⟨by decide,by decide⟩,.inl ⟨by decide,by decide⟩,by omega,.inl ⟨by decide,by decide⟩,?_⟩;have X3:=X.same s3 (Qd _);rw[show((m+1:Nat):Int)-1=(m:Int) by omega];refine⟨a,P,L,G,p,Rl,gr,N,ts,Cs,ns,h,w,g,PP,cl,_,u+41*((i:Int)+1),l/64 % (3*((m+1:Nat):Int)),rfl,by omega,⟨wd.same s3,s3 _ _ eg,e3,by rw[SZ];exact ml,X.mm.put tb.1 tb.2⟩,by omega,by omega,q0,by omega,λZ U al ac s4 am bo as=>?_⟩;have ae:=s3.trans s4;refine ixT (ae _ _ eT) (v:=V.int z) rfl ?_;refine⟨lnR rfl,λS ap=>?_⟩;have s5:Same U (upd U S (.tup [V.str supS,V.int 0,V.int z,V.int t,V.ref Z])):=(P2 U).laid ap;have ao:(upd U S (.tup [V.str supS,V.int 0,V.int z,V.int t,V.ref Z])) S=some (.tup [V.str supS,V.int 0,V.int z,V.int t,V.ref Z]):=ai;show W' D _ (upd U S (.tup [V.str supS,V.int 0,V.int z,V.int t,V.ref Z]));generalize upd U S (.tup [V.str supS,V.int 0,V.int z,V.int t,V.ref Z])=H5 at*;have aj:=ae.trans s5;have Y':TrU (λb=>H0 b=none/\b≠B) H5 (m+1) S (.inr (0,z,t,ac):Tho ⊕ (Int × Int × Int × List (TU m))):=⟨Z,al,ao,s5 _ _ bo.top,X3.new am,bo.len,by show ac.length<=200;omega,λj b y h1 h2=>((bo.tr j b y h1 h2).weak λb f=>X3.new f.1).same s5⟩;subst hW;exact Ft n2 (wd.same aj) (X.same aj (Qd _)) ab #[0] n0 ag Y' λA T bs bk ms H' q O E C I J zz e=>k A bs bk ms H' _ _ _ _ _ _ _ _ zz e
theorem Kz{D:Ends}{i:Nat}{t r l z o m s v:Option V}{u C:Int}(I:n<=2)(e:Wd40 K H c d a P L G p Rl ts Cs ns h w g PP cl)(eg:H gr=some (.tup [.ref P,.ref p,.ref Rl]))(X:Lp41 n H0 H A B h w g bs bk PM i)(j:A≠B)(E:i<24)(u0:0<=u)(J:u+1000*(n:Int)<=3000)(k:LS n D H0 a P p Rl gr W B h w g u C i):
  Gv K c d n D [↑a,⇑u,⇑C,⇑(n:Int),↑gr,↑W,↑P,↑p,↑Rl,↑A,↑B,⇑(i:Int),t,r,l,z,o,m,s,v] H:=by
 have F:=e.P.R.F;unfold Gv;generalize Z:Gu K c d n=W' at*;exists⟨a,ns,_,rfl,e.S,e.n,by omega,by omega,?_⟩;have U:=Ja ns (u+(i:Int));have q:=Gr ns (u+(i:Int));generalize lawCA ns (u+(i:Int))=num at*;exists⟨⟨by decide,by decide⟩,?_⟩;refine⟨p,Rl,A,ts,Cs,h,w,g,num/8,PP,PM,rfl,⟨e.p,F,e.m9,e.R,e.P.R.ok,e.r1,e.P.R.n,X.eA,X.ml,X.mm.m64 F.g0 F.g1,by omega⟩,λT M th O y hT N Y Q z1 t0 t1=>?_⟩;symm;subst Z;have f:=X.new N
 obtain⟨x,Yx⟩:∃ x:TU n,TrU (λb=>H0 b=none/\b≠B) O n T x:=by
  cases n with
  | zero=>exact⟨(th:Tho),M,Y,f⟩
  | succ n=>exact⟨(.inl th:Tho ⊕ _),M,Y,f⟩
 exact Ky I (e.same y) (y _ _ eg) (X.same y (Qd _)) j E U q u0 J Yx Y.T Q z1 k
end
def AA(h:df K c d (n+1) vs H Q E):mC K c d n (eD9 Q) (start ["_law_script","_law_at","_law_size","_law_depth","_law_ground","_law_masks","_law_puzzle","_law_floor_here","_law_rules","_law_left","_law_book","_law_k","_law_number","_law_thought_here","_law_signs_here","_law_sign","_law_within","_law_most","_law_more_here","_law_fault_here"] vs) H:=by
 obtain⟨a,P,L,G,p,Rl,O,W,ts,Cs,ns,h,w,g,PP,cl,PM,u,I,rfl,Z,M,u0,u1,z0,z1,q⟩:=h;show mC K c d n _ [↑a,⇑u,⇑I,⇑(n:Int),↑O,↑W,none,none,none,none,none,none,none,none,none,none,none,none,none,none] H;unfold mC;generalize hB:Gv K c d n=MB at*;exists ox M.gr rfl ⟨_,_,rfl,_,_,rfl,_,_,rfl,rfl,?_⟩;exists iF M.W λA hA=>?_;obtain⟨D,z9,S,T⟩:=aU (.lst (PM.map V.int)) hA;rw[z9];exists⟨aQ #[1],λB r=>?_⟩;have R:Same D (upd D B (.lst [])):=(P2 D).laid r;have Y:(upd D B (.lst [])) B=↥(([]:List Addr).map V.ref):=ai;generalize upd D B (.lst [])=H2 at*;have F:A≠B:=λe=>by rw[← e,T]at r;cases r
 refine⟨_,rfl,by omega,by omega,?_⟩
 refine mQ (λi σ H'=>∃(A:Addr) (C:List Addr) (x:List (TU n)) (ms:∅) (v o l f t k j m s:Option V),σ=[↑a,⇑u,⇑I,⇑(n:Int),↑O,↑W,↑P,↑p,↑Rl,↑A,↑B,v,o,l,f,t,k,j,m,s]/\Lp41 n H H' A B h w g C x ms i/\A≠B)
  ⟨A,[],[],PM,none,none,none,none,none,none,none,none,none,rfl,⟨S.trans R,R _ _ T,S.free r,⟨Y,rfl,λi b y e=>by simp at e⟩,QI _,M.ml,M.mm⟩,F⟩ ?_ ?_
 . rintro i σ U J ⟨A,C,x,ms,v,o,l,f,t,k,j,m,s,rfl,X,N⟩;have J:i<I.toNat:=J;rw[aP,Rs];subst hB;exact Kz Z (M.wd.same X.sm) (X.sm _ _ M.gr) X N #[0] u0 u1 λA C x ms H' o l f t k j m s z e=>⟨A,C,x,ms,_,_,_,_,_,_,_,_,_,rfl,z,e⟩
 . rintro σ U ⟨A,C,x,ms,v,o,l,f,t,k,j,m,s,rfl,X,N⟩;have ln:=X.ln;exists q B U C x X.sm X.fB X.b #[0]
structure xM(K:Frag)(a:EA)(x:Str)(C:Addr)(os:List Addr):Prop where
 g:Glb K x C
 xis:XIs K C
 xd:∃ D f,XD K C D f
 at_:findIn K (.ref C) "at"=some none
 ve:PySem.W.kitOne K (.ref C) (.type "ValueError")=some true
 ex:PySem.W.exmOne K (.ref C) (.ref a.ClueError)=some true
 no:∀ y∈os,PySem.W.kitOne K (.ref C) (.ref y)=some false
abbrev uR(a:EA):List Addr:=[a.NoFloor,a.NoMove,a.NoName,a.NoPuzzle,a.NoRow,a.NoRule,a.NoText,a.TooMany]
def FoE(K:Frag)(E:XK)(H:Hp)(xs:∅):Prop:=∀(C l a:Addr) (H':Hp),Glb K "BadThought" C->Same H H'->H' l=↥(xs.map V.int)->H' a=some (.xd [("at",.ref l)])->E (.ref C) (some a) H'
def FoP(K:Frag)(Q:VK)(E:XK)(H:Hp)(o:∅ ⊕ ∅):Prop:=(∀ now,o=.inr now->∀(l:Addr) (H':Hp),Same H H'->H l=none->H' l=↥(now.map V.int)->Q (.ref l) H')/\(∀ xs,o=.inl xs->FoE K E H xs)
def gN(K:Frag)(c:Uk)(d:Ul):Sp:=λvs H Q E=>∃(P L G A B:Addr) (b:List Addr) (h w g:Int) (PP:List RR) (cl PM:∅) (a:List (TU 2)) (F:Addr->Prop),vs=[.ref P,.ref A,.ref B]/\Fi41 H c d P L G A h w g PP cl PM/\BkU F H 2 B b a/\a.length<=200/\FoP K Q E H (foU h w g PP cl 2 PM 0 a)
def xN(h:gN K c d vs H Q E):vs.length=3:=by
 obtain⟨_,_,_,_,_,_,_,_,_,_,_,_,_,_,rfl,_⟩:=h;rfl
def Gw(K:Frag)(c:Uk)(d:Ul)(a:EA)(E:XK):TS:=#[":goBw,~Jca3eJw,_tckta0a3a5e'U't'u'aaua4eepgl,'qckt#3 a0a3a5eh#6 gomb~;6dS'U't'u'aabvua4e6epl,'Qca3abi5df#2 abi5df#3 eh#3 "]
def gO(K:Frag)(c:Uk)(d:Ul)(a:EA)(E:XK):TS:=#[":gln+a1eh#3 gT~Lca2e?c#2 Mh#4 Mh#5 [_uckt'V'tj3"]
def Dy{k:Int}{x:TU n}{xs:List (TU n)}:foU h w g PP cl n now k (x::xs)=if (decide ((0:Int)∈now)||!(onB h w g (zU n x) (sU n x)&&stB (now.getD (zU n x).toNat 0) (sU n x)))=true then .inl [k] else
   match ftU h w g PP cl n now x with
   | some l=>.inl (k::l)
   | none=>foU h w g PP cl n (stL now (zU n x) (sU n x)) (k+1) xs:=rfl
section
variable{K:Frag}{c:Uk}{d:Ul}{a:EA}{E:XK}{H:Hp}{Q:VK}{P L G A T B:Addr}{h w g:Int}{PP:List RR}{cl:∅}
def Fu {a:TA} {C:Addr} {D:Ends} {σ:St} {xs:∅} (n:Glb K "BadThought" C) (q:FoE K E H xs)
  (i:∀ Q:List V->Hp->Prop,(∀(l:Addr) (H':Hp),Same H H'->H' l=↥(xs.map V.int)->Q [.ref l] H')->a σ H Q):rf E C "at" a D σ H:=
 i _ λl H' h j=>⟨l,_,rfl,j,λg d f e1 e2 m c k=>q C g d f n (λb o e=>k b o (h b o e)) m c⟩
theorem KA {D:Ends} {N b:Addr} {now:∅} {y:TU 2} {rest:List (TU 2)} {F:Addr->Prop} {i:Nat} {t:Option V} (O:Glb K "BadThought" a.BadThought) (X:Fi41 H c d P L G N h w g PP cl now) (Y:TrU F H 2 b y) (hi:i<=200)
  (k1:∀ xs,foU h w g PP cl 2 now (i:Int) (y::rest)=.inl xs->FoE K E H xs)
  (k2:foU h w g PP cl 2 now (i:Int) (y::rest)=foU h w g PP cl 2 (stL now (zU 2 y) (sU 2 y)) ((i:Int)+1) rest->onB h w g (zU 2 y) (sU 2 y)=true->∀(s:Addr) (H':Hp) (t:Option V),Same H H'->H s=none->H' s=↥((stL now (zU 2 y) (sU 2 y)).map V.int)->D.nx [↑P,↑A,↑B,↑s,⇑(i:Int),↑b,t] H'):
  Gw K c d a E D [↑P,↑A,↑B,↑N,⇑(i:Int),↑b,t] H:=by
 have g6:=X.P.R.F.g1;have xn:=X.n;have S:=X.P.R.F.m;obtain⟨T,r,M,z⟩:=Y.parts;rw[Dy]at k1 k2
 have f:(decide ((0:Int)∈now)||!(onB h w g (zU 2 y) (sU 2 y)&&stB (now.getD (zU 2 y).toNat 0) (sU 2 y)))=true->rf E a.BadThought "at" (tCons (tLst (tCons (tVar 4) tNil)) tNil) D [↑P,↑A,↑B,↑N,⇑(i:Int),↑b,t] H:=λe=>by
  rw[e,Qt rfl]at k1;refine Fu O (k1 [(i:Int)] rfl) λQ q=>?_;exists⟨lnR rfl,λl I=>q l _ ((P2 H).laid I) ai⟩
 unfold Gw;rw[ax,az];exists⟨N,now,rfl,X.A,?_⟩
 cases h0:decide ((0:Int)∈now) with
 | true=>
  rw[h0]at f;exists f rfl
 | false=>
  rw[h0,Rq]at f k1 k2;exists⟨P,L,G,N,b,M,h,w,g,PP,cl,now,T,r,zU 2 y,sU 2 y,rfl,X.P,X.A,X.n,z,?_⟩
  cases J:(onB h w g (zU 2 y) (sU 2 y)&&stB (now.getD (zU 2 y).toNat 0) (sU 2 y)) with
  | false=>
   rw[J]at f;refine⟨false,rfl,?_⟩;exists f rfl
  | true=>
   rw[J,RH,Qp P7]at k1 k2;refine⟨true,rfl,?_⟩;exists⟨P,L,G,N,b,h,w,g,PP,cl,now,y,F,rfl,by decide,X,Y,λk W j=>?_,λxs k l W j I el=>?_⟩
   . rw[k]at k2;have o:=onB_iff.mp (zg k);symm;rw[az];exists ixT (j _ _ z) (v:=V.int (zU 2 y)) rfl ?_;exists ixT (j _ _ z) (v:=V.int (sU 2 y)) rfl ?_;refine⟨N,now,zU 2 y,sU 2 y,rfl,j _ _ X.A,by omega,TQ o.2.2 (TQ g6 #[1]),λs u p x e2=>?_⟩;exact k2 rfl (zg k) s u _ (j.trans p) (j.free x) e2
   . rw[k]at k1;have xl:xs.length<=2:=uQ k;symm;rw[az];exists iteT (Fu O (λC l2 dx u hC p e1 e2=>k1 _ rfl C l2 dx u hC (j.trans p) e1 e2) λQ q=>?_);exists⟨lnR rfl,λZ U=>?_⟩;obtain⟨u,z9,p,eZ⟩:=aU (.lst [V.int (i:Int)]) U;rw[z9];refine jC eZ (p _ _ el) (by rw[P0];show 1+_<=1000;omega) λR hR=>?_;exact q R _ (p.laid hR) ai
end
def xO{a:EA}(R:xM K a "BadThought" a.BadThought (uR a))(h:gN K c d vs H Q E):gO K c d a E (eD9 Q) (start ["puzzle","masks","book","now","place","thought","fault"] vs) H:=by
 obtain⟨P,L,G,A,B,Z,h,w,g,PP,cl,PM,j,F,rfl,X,b,l2,q⟩:=h;show gO K c d a E _ [↑P,↑A,↑B,none,none,none,none] H;have bl:=b.len;have xn:=X.n;have ab:=X.P.R.F.m;unfold gO;generalize hB:Gw K c d a E=FB at*;exists iF X.A λN p=>?_;obtain⟨H1,z9,s1,eN⟩:=aU (.lst (PM.map V.int)) p;rw[z9];exists⟨B,rfl,⟨_,Qh (s1 _ _ b.top)⟩,?_⟩
 refine Cz (xs:=Z.map V.ref) (λi σ H'=>∃(N:Addr) (now:∅) (u D r:Option V),σ=[↑P,↑A,↑B,↑N,u,D,r]/\Same H H'/\H N=none/\H' N=↥(now.map V.int)/\now.length=(h*w).toNat/\MO g now/\foU h w g PP cl 2 PM 0 j=foU h w g PP cl 2 now (i:Int) (j.drop i))
  ⟨N,_,none,none,none,rfl,s1,p,eN,xn,X.mm,rfl⟩ (λi σ H' _ ⟨_,_,_,_,_,_,s,_⟩=>Qh (s _ _ b.top)) ?_ ?_
 . rintro i x U σ o hx ⟨N,now,u,D,r,rfl,M,p,z,O,I,k⟩ hU;obtain⟨t,Y,rfl⟩:=bL hx;have hi:i<Z.length:=(P8.mp Y).1;have hy:j[i]? =some (j[i]'#[0]):=P1 #[0];have ed:j.drop i=(j[i]'#[0])::j.drop (i+1):=Ry #[0];rw[ed]at k;generalize (j[i]'#[0])=y at*;have W:Same o (upd o U (.tup [V.int (i:Int),V.ref t])):=(P2 o).laid hU;refine ox ai rfl ?_;rw[su];generalize upd o U (.tup [V.int (i:Int),V.ref t])=H4 at*;have f:=M.trans W;subst hB;refine KA (A:=A) (B:=B) (rest:=j.drop (i+1)) R.g ⟨X.P.same f,W _ _ z,O,I⟩ ((b.tr i t y Y hy).same f) #[0] ?_ ?_
   . intro xs e C l dx T hC J e1 e2;exact q.2 xs (k.trans e) C l dx T hC (f.trans J) e1 e2
   . intro e S N' T r J v e5;have S:=onB_iff.mp S;have g6:=X.P.R.F.g1;exact⟨N',_,_,_,_,rfl,f.trans J,f.free v,e5,by rw[rb];exact O,I.stL X.P.R.F.g0 g6 S.2.1 #[0],k.trans e⟩
 . rintro σ o ⟨N,now,u,D,r,rfl,M,p,z,O,I,k⟩;rw[P0,bl,Sh]at k;dsimp only;exists q.1 now k N o M p z
def resT:∅ ⊕ ∅->Str × ∅
 | .inl xs=>(tx [114,101,102,117,115,101,100],xs)
 | .inr xs=>(tx [116,111,108,100],xs)
def ReP(Q:VK)(H:Hp)(o:∅ ⊕ ∅):Prop:=∀(T l:Addr) (H':Hp),Same H H'->H' T=some (.tup [.str (resT o).1,.ref l])->H' l=↥((resT o).2.map V.int)->Q (.ref T) H'
def nv(K:Frag)(c:Uk)(d:Ul):Sp:=#[3,∃ P L G A B b h w g PP cl PM a F,vs=[.ref P,.ref A,.ref B]/\Fi41 H c d P L G A h w g PP cl PM/\g<=4/\BkU F H 2 B b a/\a.length<=200/\ReP Q H (foU h w g PP cl 2 PM 0 a)]
def Js(K:Frag)(c:Uk)(d:Ul):TS:=#[":goBmbNcCdf#0 3Jw,~]ca3abi24ejOadqr`0aua4eepgl,~^ckt#3 a0a3abi24eh#5 gomb~;5dSjOadqr`0abvua4e5epl,'sca3abi24eh#3 ",[114,101,102,117,115,101,100]]
def nA(K:Frag)(c:Uk)(d:Ul):TS:=#[":gln+a1eh#3 gT*anxa2eeh#4 _vcktjOadqr`0a3e",[116,111,108,100]]
def BF(h:nv K c d vs H Q E):nA K c d (eD9 Q) (start ["_law_puzzle","_law_masks","_law_book","_law_left","_law_k","_law_fault_here"] vs) H:=by
 obtain⟨P,L,G,A,B,bs,h,w,g,PP,cl,PM,x,F,rfl,X,g4,b,l2,q⟩:=h;ac_nf;have bl:=b.len;have xn:=X.n;have U:=X.P.R.F;have ae:0<=h*w:=by have:=U.h0;have:=U.w0;exact Rw #[0] #[0]
 have ag:=U.m;have g0:=U.g0;have W:=U.g1;unfold nA;generalize hB:Js K c d=FB at*;exists iF X.A λN hN=>?_;obtain⟨H1,z9,s1,eN⟩:=aU (.lst (PM.map V.int)) hN;rw[z9];symm;rw[aO (s1 _ _ b.top),P0];refine⟨_,rfl,by omega,by omega,?_⟩
 refine mQ (λi σ H'=>∃(N:Addr) (now:∅) (v4 v5:Option V),σ=[↑P,↑A,↑B,↑N,v4,v5]/\Same H H'/\H' N=↥(now.map V.int)/\now.length=(h*w).toNat/\MO g now/\foU h w g PP cl 2 PM 0 x=foU h w g PP cl 2 now (i:Int) (x.drop i))
  ⟨N,_,none,none,rfl,s1,eN,xn,X.mm,rfl⟩ ?_ ?_
 . rintro i σ j hi ⟨N,now,v4,v5,rfl,I,O,nl,S,a⟩;have hi:i<bs.length:=by rw[QV]at hi;exact hi
   have ht:bs[i]? =some bs[i]:=P1 hi;have hy:x[i]? =some (x[i]'#[0]):=P1 #[0];have ed:x.drop i=(x[i]'#[0])::x.drop (i+1):=Ry #[0];rw[ed,Dy]at a;generalize (x[i]'#[0])=y at*;generalize bs[i]=t at*;have Y:=(b.tr i t y ht hy).same I;have X3:Fi41 j c d P L G N h w g PP cl now:=⟨X.P.same I,O,nl,S⟩;have b3:=b.same I;obtain⟨na,r,M,eb⟩:=Y.parts;have ix:∀{H':Hp} {Q':VK},Same j H'->Q' (.ref t) H'->cIx (.ref B) (.int (i:Int)) H' Q':=λs' k=>ixL (s' _ _ b3.top) (v:=V.ref t) (dS (by rw[P5,ht];rfl)) k;have io:=zj (z:=zU 2 y) (s:=sU 2 y) nl ae g4;rw[aP,Rs];subst hB;unfold Js;rw[ax,az];symm;rw[ot O]
   have ac:(decide ((0:Int)∈now)||!(onB h w g (zU 2 y) (sU 2 y)&&stB (now.getD (zU 2 y).toNat 0) (sU 2 y)))=true->∀(l T:Addr) (D:Hp),Same j D->D l=some (.lst [V.int (i:Int)])->D T=some (.tup [.str (tx [114,101,102,117,115,101,100]),.ref l])->Q (.ref T) D:=λe l T D u e1 e2=>by
    rw[e,Qt rfl]at a;rw[a]at q;exact q T l D (I.trans u) e2 e1
   have f:(decide ((0:Int)∈now)||!(onB h w g (zU 2 y) (sU 2 y)&&stB (now.getD (zU 2 y).toNat 0) (sU 2 y)))=true->[V.int (i:Int)].length<=sizeLine/\∀ p,j p=none->[V.str (tx [114,101,102,117,115,101,100]),V.ref p].length<=sizeLine/\∀ J,upd j p (.lst [V.int (i:Int)]) J=none->Q (.ref J) (upd (upd j p (.lst [V.int (i:Int)])) J (.tup [.str (tx [114,101,102,117,115,101,100]),.ref p])):=λe=>⟨lnR rfl,λl hl=>⟨lnR rfl,λT C=>by
    have u:Same j (upd j l (.lst [V.int (i:Int)])):=(P2 j).laid hl;exact ac e l T _ (u.laid C) ((P2 _).laid C _ _ ai) ai⟩⟩
   cases h0:decide ((0:Int)∈now) with
   | true=>
    rw[h0]at f;exact⟨true,rfl,iteT (f rfl)⟩
   | false=>
    rw[h0,Rq]at f a;refine⟨false,rfl,iteF ?_⟩;refine ix (P2 _) ?_;refine⟨N,t,M,now,na,r,zU 2 y,sU 2 y,rfl,O,S.m64 g0 W,eb,?_⟩
    have ea:(insB (now.length:Int) (zU 2 y) (sU 2 y)&&stB (now.getD (zU 2 y).toNat 0) (sU 2 y))=(onB h w g (zU 2 y) (sU 2 y)&&stB (now.getD (zU 2 y).toNat 0) (sU 2 y)):=by
     rw[io]
     cases i1:insB (now.length:Int) (zU 2 y) (sU 2 y) with
     | false=>rfl
     | true=>
      cases i2:stB (now.getD (zU 2 y).toNat 0) (sU 2 y) with
      | false=>simp
      | true=>
       have o:=insB_iff.mp i1;rw[P4 (S.st g0 W #[0] i2)];rfl
    rw[ea]
    cases hs:(onB h w g (zU 2 y) (sU 2 y)&&stB (now.getD (zU 2 y).toNat 0) (sU 2 y)) with
    | false=>
     rw[hs]at f;exact⟨false,rfl,iteT (f rfl)⟩
    | true=>
     rw[hs,RH,Qp P7]at a;have ab:=Ru.mp hs;have o:=onB_iff.mp ab.1;refine⟨true,rfl,iteF ?_⟩;refine ix (P2 _) ?_;refine⟨P,L,G,N,t,h,w,g,PP,cl,now,y,F,rfl,by decide,X3,g4,Y,λal D u=>?_,λxs al l D u hl el=>?_⟩
     . rw[al]at a;rw[az];exists ix u ?_;refine⟨N,t,M,now,na,r,zU 2 y,sU 2 y,rfl,u _ _ O,by omega,u _ _ eb,o.1.1,by omega,o.2.1,TQ o.2.2 W,ab.2,λN' H5 s5 aj e5=>?_⟩;exact⟨N',_,_,_,rfl,(I.trans u).trans s5,e5,by rw[rb];exact nl,S.stL g0 W o.2.1 (TQ o.2.2 W),a⟩
     . rw[al]at a;rw[a]at q;have xl:xs.length<=2:=uQ al;rw[az];exists iteT ⟨lnR rfl,λZ hZ=>?_⟩;obtain⟨H5,z9,s5,eZ⟩:=aU (.lst [V.int (i:Int)]) hZ;rw[z9];refine jC eZ (s5 _ _ el) (by rw[P0];show 1+_<=1000;omega) λR hR=>?_;refine⟨lnR rfl,λT C=>?_⟩;have af:=(I.trans u).trans s5;exact q T R _ ((af.laid hR).laid C) ai ((P2 _).laid C _ _ ai)
 . rintro σ j ⟨N,now,v4,v5,rfl,I,O,nl,S,a⟩;rw[QV,bl,Sh]at a;have a:foU h w g PP cl 2 PM 0 x=.inr now:=a;rw[a]at q;dsimp only;exists⟨lnR rfl,λT C=>q T N _ (I.laid C) ai ((P2 j).laid C _ _ O)⟩
def lJ(K:Frag):Sp:=#[3,∃ x C D,vs=[.ref x]/\H x=some (.ext (XO x C D))/\Glb K "BadThought" C/\Q (.bl false) H]
def lK(K:Frag)(a:EA):TS:=#[":goBwn]ca0ad^_weBwn]ca0ad^_xeBwn]ca0ad^_yewn]ca0ad^_zejdFPpgoBwn]ca0ad^_AeBwn]ca0ad^_BeBwn]ca0ad^_Cewn]ca0ad^_DejdFPpj~zn]ca0ad-`0e","ValueError"]
def zm{a:EA}(R:xM K a "BadThought" a.BadThought (uR a))(h:lJ K vs H Q E):lK K a (eD9 Q) (start ["_law_e"] vs) H:=by
 obtain⟨x,C,D,rfl,c,i,q⟩:=h;obtain rfl:C=a.BadThought:=by have e:=i.symm.trans R.g;injection e with e;injection e with e;injection e
 show lK K a _ [↑x] H;have b:∀{y:Addr} {d:VK},y∈uR a->d (.bl false) H->kIsX K [.ref x,.ref y] H d:=λf k=>Jy R.xis c (R.no _ f) k;unfold lK;rw[ax,az];exists b (by simp) ⟨false,rfl,iteF (b (by simp) ⟨false,rfl,iteF (b (by simp) ⟨false,rfl,iteF (b (by simp) ⟨false,rfl,iteF ?_⟩)⟩)⟩)⟩;symm;rw[az];exists b (by simp) ⟨false,rfl,iteF (b (by simp) ⟨false,rfl,iteF (b (by simp) ⟨false,rfl,iteF (b (by simp) ⟨false,rfl,iteF ?_⟩)⟩)⟩)⟩;exists Lf R.xis c R.ve ?_;exact⟨true,rfl,q⟩
def iY(K:Frag)(c:Uk)(d:Ul):Sp:=#[3,∃ P L G A B b h w g PP cl PM a F,vs=[.ref P,.ref A,.ref B]/\Fi41 H c d P L G A h w g PP cl PM/\BkU F H 2 B b a/\a.length<=200/\ReP Q H (foU h w g PP cl 2 PM 0 a)]
def dC(K:Frag)(c:Uk)(d:Ul)(a:EA):TS:=#[":gomb~q3dSjOadqr`0a4epgoBJwn]ca3ad^'ueBw,_Eca3eJwn/a'Wc3'aad-QejdSpjOadqr`1a'Wc3'ae",[116,111,108,100],[114,101,102,117,115,101,100]]
def iZ(K:Frag)(c:Uk)(d:Ul)(a:EA):TS:=#[":gldSh#3 glueh#4 g_Fc_Gckta0a1a2e#4 ^_H#5 l5h#3 _Ickt'V"]
def uS{a:EA}(R:xM K a "BadThought" a.BadThought (uR a))(h:iY K c d vs H Q E):iZ K c d a (eD9 Q) (start ["_law_puzzle","_law_masks","_law_book","_law_caught","_law_found","_law_e"] vs) H:=by
 obtain⟨P,L,G,A,B,S,h,w,g,PP,cl,PM,s,F,rfl,X,b,M,q⟩:=h;show iZ K c d a _ [↑P,↑A,↑B,none,none,none] H;unfold iZ;generalize t:dC K c d a=W at*;exists⟨aQ #[1],λe U=>?_⟩;have p:Same H (upd H e (.lst [])):=(P2 H).laid U;generalize upd H e (.lst [])=H1 at*;refine⟨λJ D i=>∃(l f:Addr) (xs:∅),J=.ref a.BadThought/\D=some f/\foU h w g PP cl 2 PM 0 s=.inl xs/\Same H1 i/\i l=↥(xs.map V.int)/\i f=some (.xd [("at",.ref l)]),?_,?_⟩
 . exists⟨P,L,G,A,B,S,h,w,g,PP,cl,PM,s,F,rfl,X.same p,b.same p,M,λnow e2 l i m Z N=>?_,λxs e2 C l f i O m o r=>?_⟩
   . rw[e2]at q;subst t;unfold dC;rw[ax,az];exists⟨lnR rfl,λT j=>q T l _ ((p.trans m).laid j) ai ((P2 _).laid j _ _ N)⟩
   . obtain rfl:C=a.BadThought:=by have e:=O.symm.trans R.g;injection e with e;injection e with e;injection e
     exact⟨l,f,xs,rfl,rfl,e2,m,o,r⟩
 . rintro C Y i ⟨l,f,xs,e1,rfl,e2,m,o,r⟩;obtain rfl:C=a.BadThought:=by injection e1
   refine⟨R.ex,λx y=>?_⟩;rw[e2]at q;obtain⟨H3,z9,s3,ex⟩:∃ z,upd i x (.ext (XO x a.BadThought (bif true then some f else none)))=z/\Same i z/\z x=some (.ext (XO x a.BadThought (some f))):=aU _ y;rw[z9];subst t;symm;unfold dC;rw[ax,az];symm;rw[az];symm
   have n:∀{v I:Option V} {u:VK},u (.ref l) H3->tXat K (tVar 3) "at" [some (V.ref P),some (V.ref A),some (V.ref B),some (V.ref x),v,I] H3 u:=λk=>by
    unfold tXat;exists⟨x,_,f,_,l,rfl,ex,s3 _ _ r,by simp[List.lookup],R.xd,R.at_,k⟩
   refine iteF ?_;refine Jy R.xis ex IU ?_;refine⟨true,rfl,iteF ?_⟩;refine⟨x,_,_,rfl,ex,R.g,?_⟩;refine⟨false,rfl,iteF ?_⟩;refine n ?_;refine yz (s3 _ _ o) ?_;refine⟨true,rfl,iteF ?_⟩;refine n ?_;exact⟨lnR rfl,λT j=>q T l _ (((p.trans m).trans s3).laid j) ai ((P2 _).laid j _ _ (s3 _ _ o))⟩
def wm(h:br K vs H Q E):iB K (eD9 Q) (start ["_law_script","_law_k","_law_number"] vs) H:=yT h
def Ij(K:Frag)(c:Uk)(d:Ul):Sp:=#[3,∃(a:Addr) (ns:∅),vs=[.ref a]/\SqL K H a (ns.map V.int)/\ns.length<=63/\(∀ k,k≠.Rule->c.ok k=true)/\d.ok .Puzzle=true/\∀ H',Q (.bl true) H']
def AB(K:Frag):Sp:=#[3,∃(a:Addr) (ns:∅),vs=[.ref a]/\SqL K H a (ns.map V.int)/\ns.length<=63/\∀ H',Q (.bl true) H']
def nX(K:Frag)(c:Uk)(d:Ul):TS:=#[":gTyc8h#10 gl,_Jckta6a7a|aeh#11 oBJwn/a|bad-'DembEc|bb~q,~^ckt#3 a6a7a|aedSjdFCpjdFP"]
def sZ(K:Frag)(c:Uk)(d:Ul):TS:=#[":goBmbEc,_Kckta6a7a9e,_Lckta6a7a8embEc98jdFCp_Mckt"]
def nY(K:Frag)(c:Uk)(d:Ul):TS:=#[":gln+a8eh#9 _Nckt"]
def pL(K:Frag)(c:Uk)(d:Ul):TS:=#[":g'kmb>,'Sc#3 a8edf#300 Z'fcQ_O8_Pckt"]
def pM(K:Frag)(c:Uk)(d:Ul):TS:=#[":gl,'Tckt#3 a0adf#20 abvdf#8 n~:adf#16 an~Vca0eeadf#2 aOa6a1a4ea7eh#8 _Qckt"]
def pN(K:Frag)(c:Uk)(d:Ul):TS:=#[":gombscbA,~jca0adf#8 edf#5 df#1 ldf#0 ~?7bAbL,~jca0adf#8 edf#5 2~[p_Rckt"]
def uT(K:Frag)(c:Uk)(d:Ul):TS:=#[":g~w#7 &--1 yc3h#1 HbIb~Mdf#1 bi2df#2 df#1 _Sckt"]
def pO(K:Frag)(c:Uk)(d:Ul):TS:=#[":gl~b_T_U_Vckt=~ca1az&-- yc4h#1 Hbi1df#3 a5eh#6 _Wckt"]
def uU(K:Frag)(c:Uk)(d:Ul):TS:=#[":g~w#5 &--30 *a2eh#1 HbUbi21bAbL,~jca3abvdf#300 1edf#5 df#2 _Xckt"]
def uV(K:Frag)(c:Uk)(d:Ul):TS:=#[":g~w#4 &--310 *abvdf#1 bA,~jca0adf#9 edf#5 eh#1 H,_Yca,~jca4abvdf#10 1ea3a2e_Zckt"]
def pP(K:Frag)(c:Uk)(d:Ul):TS:=#[":glz&--10 *a2eh#1 Hbvdf#1 bAbL,~jca3abvdf#1 1edf#3 bi2df#2 h#3 _*ckt"]
def uW(K:Frag)(c:Uk)(d:Ul):TS:=#[":glbUbi1df#0 bi1df#1 h#2 _+ckt"]
def Dz(K:Frag)(c:Uk)(d:Ul):TS:=#[":gl,_-ca,~jca0adf#0 eeh#1 _/ckt"]
theorem eqvU:∀{n:Nat} (x:TU n),PyData.eqv (dU n x) (dU n x)=true
 | 0,(th:Tho)=>HU ..
 | _+1,(.inl th:Tho ⊕ _)=>HU ..
 | n+1,(.inr p:Tho ⊕ _)=>by
  have h1:PyData.eqvAll (p.2.2.2.map (dU n)) (p.2.2.2.map (dU n))=true:=ly λd a=>by obtain⟨x,_,rfl⟩:=Qe.mp a;exact eqvU x
  show PyData.eqv (.tuple [.str supS,.int p.1,.int p.2.1,.int p.2.2.1,.list (p.2.2.2.map (dU n))]) (.tuple [.str supS,.int p.1,.int p.2.1,.int p.2.2.1,.list (p.2.2.2.map (dU n))])=true;rw[PyData.eqv];refine ly λd a=>?_;simp only[Qs,Rf,Sn]at a;rcases a with rfl | rfl | rfl | rfl | rfl
  . rw[kq,P4 rfl]
  . exact n9 _
  . exact n9 _
  . exact n9 _
  . rw[PyData.eqv];exact h1
def shR(o:∅ ⊕ ∅):SeqAt.shaped (.tuple [.str (resT o).1,.list ((resT o).2.map PyData.int)])=true:=by
 have h1:PyData.strOk (tx [114,101,102,117,115,101,100])=true:=by decide+kernel
 have h2:PyData.strOk (tx [116,111,108,100])=true:=by decide+kernel
 cases o <;> simp[resT,SeqAt.shaped,PyData.canLay0,PyData.canLayAll0,oo,PyData.depth,PyData.depthAll,kC,h1,h2]
section
variable{K:Frag}{c:Uk}{d:Ul}{H0 Hb H:Hp}{Q:VK}{a P L G p Rl W B S:Addr}{ts Cs bs:List Addr}{ns:∅}{h w g:Int}{PP:List RR}{cl PM:∅}{bk:List (TU 2)}{F:Addr->Prop}
def Gx{s v1 z p o t v:Option V}(X:Fi41 H c d P L G W h w g PP cl PM)(A:g<=4)(b:BkU F H 2 B bs bk)(q:∀ H',Q (.bl true) H'):
  nX K c d (eD9 Q) [s,v1,z,p,o,t,↑P,↑W,↑B,v,none,none] H:=by
 have bl:=b.len;unfold nX;exists⟨⟨_,Qh b.top⟩,?_⟩;refine dF (K:=K) (xs:=bs.map V.ref) (λi σ H'=>∃(e f:Option V),σ=[s,v1,z,p,o,t,↑P,↑W,↑B,v,e,f]/\Same H H') ⟨none,none,rfl,P2 H⟩ (λj σ S _ ⟨_,_,_,E⟩=>Qh (E _ _ b.top)) ?_ ?_
 . rintro i x σ u C ⟨e,f,rfl,k⟩;obtain⟨T,r,rfl⟩:=bL C;have M:=(P8.mp r).1;have D:bk[i]? =some (bk[i]'#[0]):=P1 #[0];have Y:=b.tr i T _ r D;generalize (bk[i]'#[0])=y at*;rw[aP];exists⟨P,L,G,W,T,h,w,g,PP,cl,PM,y,F,rfl,X.same k,Y.same k,λR I=>?_⟩;have a:=k.trans I;symm;rw[az];exists⟨P,L,G,W,T,h,w,g,PP,cl,PM,y,F,rfl,by decide,X.same a,A,Y.same a,λm J n=>?_,λxs m l J n N O=>?_⟩
   . rw[m];exists⟨_,_,rfl,a.trans n⟩
   . rw[m];exists⟨_,_,rfl,a.trans n⟩
 . rintro σ u ⟨e,f,rfl,k⟩;exists q u
def Gy{E v1 U C A J:Option V}(X:Fi41 H c d P L G W h w g PP cl PM)(r:g<=4)(b:BkU F H 2 B bs bk)(u:bk.length<=200)(q:∀ H',Q (.bl true) H'):
  nY K c d (eD9 Q) [E,v1,U,C,A,J,↑P,↑W,↑B,none,none,none] H:=by
 unfold nY;generalize m:sZ K c d=W' at*;exists iF b.top λN O=>?_;obtain⟨M,S,n,R⟩:=aU (.lst (bs.map V.ref)) O;rw[S];have p:BkU F M 2 N bs bk:=⟨R,b.len,λi t y h1 h2=>(b.tr i t y h1 h2).same n⟩;subst m;unfold sZ;generalize m:nX K c d=W' at*;rw[ax,az];exists⟨P,L,G,W,N,bs,h,w,g,PP,cl,PM,bk,F,rfl,X.same n,p,u,λT1 l1 H2 v e1 e2=>?_⟩;have f:=n.trans v;refine⟨P,L,G,W,B,bs,h,w,g,PP,cl,PM,bk,F,rfl,X.same f,r,b.same f,u,λZ Y o k I z=>?_⟩;have a:=f.trans k;have s:∀{T l:Addr},o T=some (.tup [.str (resT (foU h w g PP cl 2 PM 0 bk)).1,.ref l])->o l=↥((resT (foU h w g PP cl 2 PM 0 bk)).2.map V.int)->DV K o (.ref T) (.tuple [.str (resT (foU h w g PP cl 2 PM 0 bk)).1,.list ((resT (foU h w g PP cl 2 PM 0 bk)).2.map PyData.int)]):=λe D=>.tup (Ud e) (.cons (.str _) (.cons (.lst (Qh D) (DVs.ints _)) .nil));refine CU (s (k _ _ e1) (k _ _ e2)) (s I z) (shR _) ?_ ?_
 . rw[PyData.eqv];refine ly λd j=>?_;simp only[Qs,Rf,Sn]at j;rcases j with rfl | rfl
   . rw[kq,P4 rfl]
   . rw[PyData.eqv,se,P4 rfl]
 exists CU (p.same (v.trans k)).dv (b.same a).dv (BkU.sh #[1]) ?_ ?_
 . rw[PyData.eqv];exact ly λd j=>by obtain⟨x,_,rfl⟩:=Qe.mp j;exact eqvU x
 symm;subst m;exact Gx (X.same a) r (b.same a) q
def Ik{o v1 s n m p:Option V}(X:Fi41 H0 c d P L G W h w g PP cl PM)(D:g<=4)(M:Same H0 H)(O:H0 B=none)(b:BkU (λb=>H0 b=none/\b≠B) H 2 B bs bk)(j:bk.length<=200)(q:∀ H',Q (.bl true) H'):
  pL K c d (eD9 Q) [o,v1,s,n,m,p,↑P,↑W,↑B,none,none,none] H:=by
 unfold pL;generalize J:nY K c d=W' at*;rw[ax];refine ID (λσ H'=>∃(bs:List Addr) (bk:List (TU 2)),σ=[o,v1,s,n,m,p,↑P,↑W,↑B,none,none,none]/\Same H0 H'/\BkU (λb=>H0 b=none/\b≠B) H' 2 B bs bk/\bk.length<=200) (λ_ H'=>match H' B with | ↥xs=>xs.length | _=>0) ⟨bs,bk,rfl,M,b,j⟩ ?_ ?_
 . rintro σ F ⟨bs,bk,rfl,u,b,j⟩;exists⟨B,bs,bk,_,rfl,by decide,b,j,λr f=>?_⟩;symm;have a:=b.same f;have bl:=b.len
   cases e:decide (300<manyU 2 bk) with
   | false=>
    symm;subst J;exact Gy (X.same (u.trans f)) D a j q
   | true=>
    have T:0<bk.length:=by
     cases bk with
     | nil=>exact absurd (Qw e) #[1]
     | cons x y=>exact Nat.succ_pos _
    exists⟨cC a.top,B,_,V.ref (bs[bs.length-1]'#[0]),rfl,rfl,a.top,?_,⟨bs.dropLast,bk.dropLast,trivial,(u.trans f).own O,⟨?_,?_,λi t y h1 h2=>TrU.put (a.tr i t y ?_ ?_) a.top λq=>q.2 rfl⟩,?_⟩,?_⟩
    . rw[P0,P5,P1 #[0]];rfl
    . rw[ai,List.map_dropLast]
    . rw[RO,RO,bl]
    . rw[TR]at h1
      split at h1
      . exact h1
      . cases h1
    . rw[TR]at h2
      split at h2
      . exact h2
      . cases h2
    . rw[RO];omega
    . rw[ai,b.top];show(bs.map V.ref).dropLast.length < (bs.map V.ref).length;rw[RO,P0];omega
 . intro σ F U S k h1
   revert h1
   simp only[cI,fU,cJ,bO];unfold tVar;rcases σ[8]? with _ | _ | v
   . exact λh=>h
   . exact λh=>h
   . rintro⟨C,cs,l,E,e1,A,I,N,R⟩
     exact⟨C,cs,l,E,e1,A,I,N,λr f=>by
      obtain⟨b,e,z⟩:=R r f;exact⟨b,e,k _ _ z⟩⟩
def A6{y m o:Option V}(e:Wd40 K H c d a P L G p Rl ts Cs ns h w g PP cl)(j:H W=↥(PM.map V.int))(k:PM.length=(h*w).toNat)(i:MO g PM)(q:∀ H',Q (.bl true) H'):
  pM K c d (eD9 Q) [↑a,↑p,y,m,↑Rl,o,↑P,↑W,none,none,none,none] H:=by
 have A:=e.n;unfold pM;generalize s:pL K c d=W' at*;exists⟨a,_,rfl,.inl e.S,?_⟩;symm;rw[P0];have C:(if ((ns.length:Nat):Int)<16 then((ns.length:Nat):Int) else 16)<=16/\0<=(if ((ns.length:Nat):Int)<16 then((ns.length:Nat):Int) else 16):=by split <;> omega
 generalize (if ((ns.length:Nat):Int)<16 then((ns.length:Nat):Int) else 16)=mk at*;refine⟨lnR rfl,λu l=>?_⟩;obtain⟨r,x,f,t⟩:=aU (.tup [V.ref P,V.ref p,V.ref Rl]) l;rw[x];refine⟨a,P,L,G,p,Rl,u,W,ts,Cs,ns,h,w,g,PP,cl,PM,20,8+mk,rfl,by decide,⟨e.same f,t,f _ _ j,k,i⟩,by decide,by decide,by omega,by omega,λB D bs bk z v b bl=>?_⟩;subst s;exact Ik (H0:=r) ⟨(e.same f).P,f _ _ j,k,i⟩ e.g4 z v b #[0] q
theorem Il{t r:Option V}(f:Wd40 K Hb c d a P L G p Rl ts Cs ns h w g PP cl)(j:Same Hb H)(i:Hb W=none)(m:H W=↥(PM.map V.int))(k:PM.length=(h*w).toNat)(l:MO g PM)(q:∀ H',Q (.bl true) H'):
  pN K c d (eD9 Q) [↑a,↑p,⇑(h*w),t,↑Rl,r,↑P,↑W,none,none,none,none] H:=by
 have F:=f.P.R.F;have x:1<=h*w:=by have:=F.h0;have:=F.w0;exact Tv #[0] #[0]
 have b:=f.same j;unfold pN;generalize o:pM K c d=W' at*;rw[ax,az];exists⟨a,ns,8,rfl,b.S,f.n,by decide,by decide,?_⟩;exists⟨by decide,?_⟩
 cases e:decide (lawCA ns 8%5=1) with
 | false=>
  symm;subst o;exact A6 b m k l q
 | true=>
  exists⟨a,ns,8,rfl,b.S,f.n,by decide,by decide,?_⟩;symm;have u:=QK (lawCA ns 8/5) (show h*w≠0 by omega);have y:=QA (lawCA ns 8/5) (show 0<h*w by omega);refine⟨⟨by decide,by decide⟩,by omega,?_⟩;refine B2 m u (by rw[P0];omega) ?_;rw[mI];subst o;have s:(0:Int)<2^g.toNat:=Int.pow_pos #[1];have v:Same Hb (upd H W (.lst ((PM.set (lawCA ns 8/5 % (h*w)).toNat 0).map V.int))):=j.own i;exact A6 (f.same v) ai (by rw[SZ];exact k) (l.put (Int.le_refl _) s) q
def KB {n:Nat} {m:St} {B:TE} {fin:Addr->Hp->Prop} (F:FlOk h w g) (X:n<=12)
  (W:∀ i c Q,i<n->Same H c->RlP Q c h w g->B (m.set 1 ⇑(0+(i:Int))) c Q)
  (U:∀(l:Addr) (ts Cs:List Addr) (PP:List RR) (c:Hp),H l=none->Same H c->Rs40 c l ts Cs PP->PP.length=n->(∀ r∈PP,r.Ok h w g)->fin l c):
  CompR (Itr 0 n) (gName 1) tTrue B fin m H:=by
 refine si (λl i σ c=>(σ=m\/∃ A,σ=m.set 1 A)/\Same H c/\∃(ts Cs:List Addr) (PP:List RR),Rs40 c l ts Cs PP/\PP.length=i/\l∉Cs/\∀ r∈PP,r.Ok h w g) (λl k=>⟨.inl rfl,(P2 H).laid k,[],[],[],⟨by rw[ai];rfl,rfl,rfl,λi T C r e _ _=>by simp at e⟩,rfl,by simp,(λ_ h=>nomatch h)⟩) ?_ (λl σ c k ⟨_,s,ts,Cs,PP,R,u,_,z⟩=>U l ts Cs PP c k s R u z);rintro l i σ c k I ⟨S,s,ts,Cs,PP,R,u,q,z⟩;rw[aP]
 have e:σ.set 1 ⇑(0+(i:Int))=m.set 1 ⇑(0+(i:Int)):=by
  rcases S with rfl | ⟨A,rfl⟩
  . rfl
  . exact RQ ..
 rw[e,cK,Qt rfl];have J:=R.len;have cl:=R.lnC;refine W i c _ I s λE C r D o Y O=>?_
 have p:C≠l:=λe=>by
  have a:=Y.C;rw[e,o _ _ R.top]at a;have b:=(As O F).1
  cases ts with
  | nil=>
   cases f:r.cs with
   | nil=>rw[f]at b;cases b
   | cons x y=>rw[f]at a;cases a
  | cons t y=>
   cases f:r.cs with
   | nil=>rw[f]at b;cases b
   | cons x y=>rw[f]at a;cases a
 refine⟨_,o _ _ R.top,by rw[P0];exact aL #[0],.inr ⟨_,rfl⟩,(s.trans o).own k,ts++[E],Cs++[C],PP++[r],?_,by rw[Qn,u];rfl,?_,λx d=>?_⟩
 . have G:∀{T C:Addr} {r:RR},IsRl D T C r->C≠l->IsRl (upd D l (.lst (ts.map V.ref++[V.ref E]))) T C r:=λ{T C r} y q=>⟨by
     have L:T≠l:=λe=>by have:=y.top;rw[e,o _ _ R.top]at this;cases this
     rw[ap L];exact y.top,by rw[ap q];exact y.C⟩
   refine⟨by rw[ai,Re];rfl,by rw[Qn,Qn,J];rfl,by rw[Qn,Qn,cl];rfl,λj N K P h1 h2 h3=>?_⟩;by_cases M:j<ts.length
   . rw[QM M]at h1;rw[QM #[0]]at h2 h3;exact G ((R.at_ j N K P h1 h2 h3).same o) λe=>q (e ▸ Qi h2)
   . rw[QS #[0]]at h1 h2 h3;have v:j=ts.length:=by have:=(P8.mp h1).1;simp at this;omega
     subst v;rw[Nat.sub_self]at h1;rw[show ts.length-Cs.length=0 by omega]at h2;rw[show ts.length-PP.length=0 by omega]at h3;cases h1;cases h2;cases h3;exact G Y p
 . intro d;rcases QD.mp d with d | d
   . exact q d
   . exact p (Qz.mp d).symm
 . rcases QD.mp d with d | d
   . exact z x d
   . rw[Qz.mp d];exact O
def Im{O f:Addr}{e:∅}(M:H f=↥(e.map V.int))(z:e.length=(h*w).toNat)(hS:SqL K H a (ns.map V.int))(hn:ns.length<=63)(y:IsFl H p h w g)(F:FlOk h w g)(U:h*w<=9)(g4:g<=4)(R:Rs40 H Rl ts Cs PP)(J:∀ r∈PP,r.Ok h w g)(r1:1<=PP.length)(X:PP.length<=12)(eC:H O=↥(cl.map V.int))(Cc:CluesOk h w g cl)(t:∀ k,k≠.Rule->c.ok k=true)(ok:d.ok .Puzzle=true)(q:∀ H',Q (.bl true) H'):
  pO K c d (eD9 Q) [↑a,↑p,⇑(h*w),↑f,↑Rl,↑O,none,none,none,none,none,none] H:=by
 have tl:=R.len;have ab:=R.lnC;unfold pO;generalize u:uT K c d=W at*;exists⟨⟨_,Qh R.top⟩,?_⟩;refine bM (xs:=ts.map V.ref) (λ_=>true) (λi=>V.str ((PP.map RR.txt).getD i "")) (by rw[P0];omega) (Qh R.top) ?_ ?_ ?_
 . intro i x l R4 o j k4;exact k4 _ (P2 _)
 . intro i x l B o D j k4;obtain⟨T,E,rfl⟩:=bL o;have n:=(P8.mp E).1;have e2:Cs[i]? =some (Cs[i]'#[0]):=P1 #[0];have I:PP[i]? =some (PP[i]'#[0]):=P1 #[0];have Y:=(R.at_ i T _ _ E e2 I).same j;show tOp cIx _ _ [none,↑T] l B;exists ixT Y.top (v:=V.str (PP[i]'#[0]).txt) rfl ?_;have ex:(PP.map RR.txt).getD i ""=(PP[i]'#[0]).txt:=by rw[List.getD,P5,I];rfl
   rw[ex]at k4;exact k4 _ (P2 _)
 . intro Ll H1 hL C s
   have s:H1 Ll=↥((PP.map RR.txt).map V.str):=by
    rw[s]
    congr 2
    rw[RF.mpr (λ_ _=>rfl),P0];refine Rp λi=>?_;rw[P5,P5,P5];rcases Ui i ts.length with n | n
    . rw[Ra n,P1 #[0]];show some (V.str ((PP.map RR.txt).getD i ""))=_;rw[List.getD,P5,P1 #[0]];rfl
    . rw[Qr (by rw[QU];exact n),Qr #[0]];rfl
   exists Lr ok (C _ _ y) s (C _ _ eC) ⟨F,X,J,λr hr=>t _ (J r hr).k0⟩ Cc λP L G H2 s2 hP hL hG pz=>?_;have b:=C.trans s2;symm;subst u;unfold uT;generalize u:pN K c d=W at*;have g0:=F.g0;have g6:=F.g1;have Z:=F.m
   have p1:(1:Int)<=2^g.toNat:=by
    have:(0:Int)<2^g.toNat:=Int.pow_pos #[1];omega
   exists⟨⟨_,Qh (b _ _ M)⟩,?_⟩;refine bc (xs:=e) (λ_=>true) (λ_=>2^g.toNat-1) #[0] (Qh (b _ _ M)) ?_ ?_ ?_
   . intro x l R4 o j k4;exact k4 _ (P2 _)
   . intro x l B o D j k4;show tOp cSub _ _ [none,⇑x,↑p] l B;exists ixT ((b.trans j) _ _ y) (v:=V.int g) rfl ?_;exists⟨⟨by omega,by omega,by decide⟩,?_⟩;symm;rw[T8];exact k4 _ (P2 _)
   . intro A H3 hA N S;have ft:e.filter (λ_=>true)=e:=RF.mpr λ_ _=>rfl;rw[ft]at S;have ac:=b.trans N;have ml:(e.map λ_=>(2:Int)^g.toNat-1).length=(h*w).toNat:=by rw[P0];exact z
     have mm:MO g (e.map λ_=>(2:Int)^g.toNat-1):=λm hm=>by
      obtain⟨_,_,rfl⟩:=Qe.mp hm;omega
     generalize (e.map λ_=>(2:Int)^g.toNat-1)=PM at*;symm;subst u;exact Il (W:=A) (Hb:=H2) ⟨b.seq hS,hn,pz,b _ _ y,U,g4,R.same b,r1⟩ N hA S ml mm q
def Io(o:SqL K H a (ns.map V.int))(r:ns.length<=63)(I:IsFl H p h w g)(F:FlOk h w g)(O:h*w<=9)(T:g<=4)(E:∀ k,k≠.Rule->c.ok k=true)(Z:d.ok .Puzzle=true)(q:∀ H',Q (.bl true) H'):
  pP K c d (eD9 Q) [↑a,↑p,⇑(h*w),none,none,none,none,none,none,none,none,none] H:=by
 have g0:=F.g0;have mp:1<=h*w:=by have:=F.h0;have:=F.w0;exact Tv #[0] #[0]
 unfold pP;rw[ax];generalize t:uV K c d=W at*;exists⟨_,rfl,by omega,by omega,?_⟩;refine fV (λ_=>true) (λ(i:Nat)=>1+lawCA ns (1+(i:Int))/3%g) #[0] ?_ ?_ ?_
 . intro i m R4 l j k4;exact k4 _ (P2 _)
 . intro i m z l N j k4;have u:i < (h*w).toNat:=l;show tOp cAdd _ _ [none,⇑(0+(i:Int)),↑p,↑a] m z;rw[Rs];exists⟨a,ns,_,rfl,j.seq o,r,by omega,by omega,?_⟩;exists⟨⟨by decide,by decide⟩,?_⟩;refine ixT (j _ _ I) (v:=V.int g) rfl ?_;exists⟨by omega,k4 _ (P2 _)⟩
 . intro f H1 hf M C;rw[bq]at C;have y:((List.range (h*w).toNat).map λ(i:Nat)=>1+lawCA ns (1+(i:Int))/3%g).length=(h*w).toNat:=by simp
   have G:∀ x∈(List.range (h*w).toNat).map λ(i:Nat)=>1+lawCA ns (1+(i:Int))/3%g,1<=x/\x<=g:=λx B=>by
    obtain⟨i,_,rfl⟩:=Qe.mp B;have Y:=QK (lawCA ns (1+(i:Int))/3) (show g≠0 by omega);have U:=QA (lawCA ns (1+(i:Int))/3) (show 0<g by omega);omega
   generalize ((List.range (h*w).toNat).map λ(i:Nat)=>1+lawCA ns (1+(i:Int))/3%g)=fl at*;symm;subst t;unfold uV;rw[ax];generalize t:uU K c d=W at*;exists⟨a,ns,_,rfl,M.seq o,r,by decide,by decide,?_⟩;symm;have Y:=QK (lawCA ns 9) (show(5:Int)≠0 by decide);have U:=QA (lawCA ns 9) (show(0:Int)<5 by decide);refine⟨by decide,_,rfl,by omega,by omega,?_⟩;generalize B:1+lawCA ns 9%5=x at*;refine KB (h:=h) (w:=w) (g:=g) F #[0] ?_ ?_
   . intro i m z l j k4;have u:i<x.toNat:=l;show tCall _ _ _ _ [none,⇑(0+(i:Int)),↑f,↑p,↑a] m z;rw[Rs];symm;have s:=M.trans j;refine⟨a,ns,_,rfl,s.seq o,r,by omega,by omega,?_⟩;exact⟨p,f,_,h,w,g,fl,rfl,⟨s _ _ I,F,O,j _ _ C,y,G⟩,k4⟩
   . intro Rl ts Cs PP H2 hR L R rl X;have A:=M.trans L;symm;subst t;unfold uU;rw[ax];generalize t:pO K c d=W at*;exists⟨_,rfl,by omega,by omega,?_⟩;refine fV (λ_=>true) (λ(i:Nat)=>fl.getD i 0*(lawCA ns (300+(i:Int))/5%2)) #[0] ?_ ?_ ?_
     . intro i m R4 l j k4;exact k4 _ (P2 _)
     . intro i m z l N j k4;have u:i < (h*w).toNat:=l;show tOp cMul _ _ [none,⇑(0+(i:Int)),↑f,↑a] m z;rw[Rs];exists ixI ((L.trans j) _ _ C) #[0] #[0] ?_;rw[QV];refine⟨a,ns,_,rfl,(A.trans j).seq o,r,by omega,by omega,?_⟩;symm;have b:=G _ (ce (ms:=fl) (k:=i) #[0]);exact⟨⟨by decide,by decide⟩,by decide,pw b.1 #[0],k4 _ (P2 _)⟩
     . intro Cl H3 hC J P;rw[bq]at P;have D:((List.range (h*w).toNat).map λ(i:Nat)=>fl.getD i 0*(lawCA ns (300+(i:Int))/5%2)).length=(h*w).toNat:=by simp
       have S:∀ x∈(List.range (h*w).toNat).map λ(i:Nat)=>fl.getD i 0*(lawCA ns (300+(i:Int))/5%2),0<=x/\x<=g:=λx B=>by
        obtain⟨i,l,rfl⟩:=Qe.mp B;have b:=G _ (ce (ms:=fl) (k:=i) (by have:=Qf.mp l;omega));have e:lawCA ns (300+(i:Int))/5%2=0\/lawCA ns (300+(i:Int))/5%2=1:=by omega
        rcases e with e | e
        . rw[e,Int.mul_zero];omega
        . rw[e,Int.mul_one];omega
       generalize ((List.range (h*w).toNat).map λ(i:Nat)=>fl.getD i 0*(lawCA ns (300+(i:Int))/5%2))=cl at*;symm;subst t;have n:=A.trans J;exact Im ((L.trans J) _ _ C) y (n.seq o) r (n _ _ I) F O T (R.same J) X #[0] #[0] P ⟨D,S⟩ E Z q
end
def LT(h:Ij K c d vs H Q E):Dz K c d (eD9 Q) (start ["_law_script","_law_floor_here","_law_many_here","_law_filling","_law_rules","_law_clues","_law_puzzle","_law_masks","_law_book","_law_handed","_law_thought_here","_law_found"] vs) H:=by
 obtain⟨a,ns,rfl,i,j,m,e,q⟩:=h;ac_nf;unfold Dz;rw[ax];generalize f:uW K c d=W at*;exists⟨a,ns,0,rfl,i,j,by decide,by decide,?_⟩;refine⟨_,rfl,λp h w g r l n b F k o=>?_⟩;subst f;unfold uW;rw[ax];generalize f:pP K c d=W at*;exists ixT b (v:=V.int h) rfl ?_;refine ixT b (v:=V.int w) rfl ?_;exists⟨pw F.h0 F.h1,?_⟩;subst f;exact Io (l.seq i) j b F k o m e q
def zn(h:lH K vs H Q E):lI K (eD9 Q) (start ["_law_mask"] vs) H:=by
 obtain⟨m,rfl,v,e,q⟩:=h;exists lI;refine⟨1,5,rfl,⟨by decide,by decide,by decide,by decide⟩,?_⟩;refine fV (λ(i:Nat)=>stB m (1+(i:Int))) (λ(i:Nat)=>1+(i:Int)) #[1] ?_ ?_ ?_
 . intro i d p c f k4;have g:i<4:=c;show tTest _ [none,⇑(1+(i:Int)),⇑m] d p;exists⟨by omega,?_⟩;rw[Jm v e #[0] #[0]];exact k4 _ (P2 _)
 . intro i d j c r f k4;show tVar 1 [none,⇑(1+(i:Int)),⇑m] d j;exists k4 _ (P2 _)
 . intro l o n k t;refine q l _ o k n t ?_ ?_
   . rw[P0];exact Qa (Qk _ _) #[1]
   . intro s;rw[Qe];constructor
     . rintro⟨i,c,rfl⟩;have h1:=QB.mp c;have h2:i<4:=Qf.mp h1.1;exact⟨by omega,by omega,h1.2⟩
     . rintro⟨a,b,u⟩;refine⟨(s-1).toNat,QB.mpr ⟨Qf.mpr (by show(s-1).toNat<4;omega),?_⟩,by omega⟩;rw[show 1+(((s-1).toNat:Nat):Int)=s by omega];exact u
section
variable{X:Cx}{e:Expr}{es rs:List Expr}{te:TE}{t:TA}
def i5{c:Const}{k}{p:Pos}(b:PE X (.Constant c k p) te)(a:PA X es t):PA X (.Constant c k p::es) (tCons te t):=aa b a
end
section
variable{Z:Z5}{ps:List Str}{k k':Nat}{sp:Sp}{x:Str}{st:Stmt}
def Cal.up(C:Ca9 Z k x ps sp)(h:k<=k'):Ca9 Z k' x ps sp:=
 let ⟨f,d,F,a,b,c⟩:=C.ex
 ⟨f,d,F.mono h,a,b,c⟩
def calF(B:Bt3 Z)(D:De Z.K x st)(b:Bd x x st ps)(h:∀{vs H Q E},sp vs H Q E->False):Ca9 Z k x ps sp:=
 let ⟨f,c,a,F⟩:=D.ex
 ⟨f,c,⟨λ_ _ _ _ q=>(h q).elim,λ_ _ _ _ _ _ _ _ _ _ _ _ _ q=>(h q).elim⟩,B.ns a,F.kp,F.binds b⟩
end
section
variable{X:Cx}{e:Expr}{pos p:Pos}{x:Str}{es:List Expr}{t:TA}{ps:List Str}{sp:Sp}{k n:Nat}
def kcaO(C:Cal X.prog X.w X.K X.mg X.base k x ps sp)(h:Room n X.A)(g:PA X (e::es) t)(f:k<=n:=by omega)(c:Gl X x:=by exact rfl)(b:(x==("__debug__":Str))=false:=by decide)(d:starEach (e::es) X.env=(false,eval e X.env)::starEach es X.env:=by rfl)(a:(backTo pos (starEach es X.env)).any (·.1)=false:=by rfl):PE X (.Call (.Name x p) (e::es) [] pos) (tCall sp [] E0 t):=Ha C h f c g b d a
end
def rdXI(C:Addr)(x f:Str):TS:=#[":gZ_:'Xa0adq_;e_?'X0n+a1e_["]
def rkXI{C:Addr}{x f:Str}{vs:List V}{H:Hp}{Q:VK}{E:XK}(h:spXI C f vs H Q E):rdXI C x f (eD9 Q) (start ["self","at"] vs) H:=by
 obtain⟨y,a,xs,rfl,b,j,q⟩:=h;show rdXI C x f _ [↑y,↑a] H;unfold rdXI;rw[ax,cm];unfold tXini sXset;simp only[gD,bO,dj,cG,cF,w_c,List.getElem?_cons_succ,List.getElem?_cons_zero];refine⟨y,.str x,rfl,b,?_⟩;refine iF j λl g=>?_;have k:y≠l:=λe=>by rw[e,g]at b;cases b
 refine⟨y,rfl,by rw[ap k];exact b,λd c=>?_⟩;have i:d≠l:=λe=>by rw[e,ai]at c;cases c
 exact q l d g (by rw[ap i]at c;exact c) (S3 i)
def XCal.of{Z:Z5}{k:Nat}{x:Str}{C D f:Addr}{a:List Str}{c:Str}(B:Bt3 Z)(e:nsIn Z.K mainGlobals x=some ↑C)(X:XD Z.K C D f)(M:Mo Z k f a (spXI C c)):XCal Z.P Z.w Z.K Z.mg Z.base k x C a c:=by
 obtain⟨d,F,b,_⟩:=M.ex;exact⟨D,f,d,X,F,B.ns e,b⟩
local macro_rules | `(tactic| walk_at "l")=>`(tactic| (intro vs H Q E h; (repeat obtain ⟨_,h⟩:=h); subst_vars; rfl))
local macro_rules | `(tactic| ac_rfl)=>`(tactic| exact ⟨rfl,rfl,rfl,by decide+kernel,rfl,by decide+kernel,by decide+kernel⟩)
structure ErrMx(mg:Str->Option Value)(a:EA):Prop where
 ClueError:mg "ClueError"=↑a.ClueError
 NoFloor:mg "NoFloor"=↑a.NoFloor
 NoMove:mg "NoMove"=↑a.NoMove
 NoName:mg "NoName"=↑a.NoName
 NoPuzzle:mg "NoPuzzle"=↑a.NoPuzzle
 NoRow:mg "NoRow"=↑a.NoRow
 NoRule:mg "NoRule"=↑a.NoRule
 NoText:mg "NoText"=↑a.NoText
 TooMany:mg "TooMany"=↑a.TooMany
 BadThought:mg "BadThought"=↑a.BadThought
def top(i:Nat):Stmt:=PySem.Challenge.pw_cluemaker_k41_where_a_book_is_refused.main.body.getD i (.Pass ⟨0,0,0,0⟩)
def mtop(i j:Nat):Stmt:=match top i with
 | .ClassDef _ _ _ a _ _ _ _ _ _ _=>a.getD j (.Pass ⟨0,0,0,0⟩)
 | s=>s
abbrev gP(Z:Z5):Prop:=Ca9 Z 1 "is_whole" ["value"] (dP Z.K)
abbrev gA(Z:Z5):Prop:=Ca9 Z 1 "many_cells" ["floor"] (dH Z.K)
abbrev uX(Z:Z5):Prop:=Ca9 Z 1 "spot_of" ["floor","cell"] (nP Z.K)
abbrev wE(Z:Z5):Prop:=Ca9 Z 1 "square_at" ["floor","corner"] (oF Z.K)
abbrev xP(Z:Z5):Prop:=Ca9 Z 1 "bit_of" ["sign"] (pG Z.K)
abbrev kf(Z:Z5):Prop:=Ca9 Z 1 "stands" ["mask","sign"] (gC Z.K)
abbrev mW(Z:Z5):Prop:=Ca9 Z 1 "clashes" ["masks"] (gL Z.K)
abbrev gQ(Z:Z5):Prop:=Ca9 Z 1 "masks_at" ["masks","cells"] (dn Z.K)
abbrev rh(Z:Z5):Prop:=Ca9 Z 1 "clue_strikes" ["clues","cell","sign","more"] (kU Z.K)
abbrev lR(Z:Z5):Prop:=Ca9 Z 1 "are_told_in_order" ["cells","more"] (gJ Z.K)
abbrev qG(Z:Z5):Prop:=Ca9 Z 1 "with_sign" ["filling","cell","sign"] (lq Z.K)
abbrev qH(Z:Z5):Prop:=Ca9 Z 1 "has_parts" ["thought"] (jc Z.K)
abbrev wF(Z:Z5):Prop:=Ca9 Z 1 "is_within" ["some","cells"] (oU Z.K)
abbrev wG(Z:Z5):Prop:=Ca9 Z 1 "number_in" ["word"] (oK Z.K)
abbrev mE(Z:Z5):Prop:=Ca9 Z 1 "_law_cell_at" ["_law_script","_law_k"] (br Z.K)
abbrev uY(Z:Z5):Prop:=Ca9 Z 1 "_law_floor" ["_law_cell"] (lz Z.K)
abbrev mL(Z:Z5):Prop:=Ca9 Z 1 "_law_near" ["_law_floor_here","_law_cell"] (iQ Z.K)
abbrev uZ(Z:Z5):Prop:=Ca9 Z 1 "_law_drawn" ["_law_number","_law_many_here","_law_size"] (iC Z.K)
abbrev u8(Z:Z5):Prop:=Ca9 Z 1 "_law_above" ["_law_filling","_law_cells"] (iD Z.K)
abbrev u9(Z:Z5):Prop:=Ca9 Z 1 "_law_signs" ["_law_mask"] (lD Z.K)
abbrev pQ(Z:Z5):Prop:=Ca9 Z 1 "_law_signs" ["_law_mask"] (lH Z.K)
abbrev va(Z:Z5):Prop:=Ca9 Z 1 "_law_kinds" ["_law_word"] (lF Z.K)
abbrev nB(Z:Z5):Prop:=Ca9 Z 1 "_law_inside" ["_law_masks","_law_thought_here"] (eK Z.K)
abbrev jL(Z:Z5):Prop:=Ca9 Z 1 "_law_behind" ["_law_masks","_law_thought_here"] (cg Z.K)
abbrev wH(Z:Z5):Prop:=Ca9 Z 1 "_law_bent" ["_law_thought_here","_law_number"] (mx Z.K)
abbrev vb(Z:Z5):Prop:=Ca9 Z 1 "_law_other" ["_law_e"] (lJ Z.K)
abbrev kg(Z:Z5):Prop:=Ca9 Z 2 "is_from_one_to" ["value","most"] (cO Z.K)
abbrev o5(Z:Z5):Prop:=Ca9 Z 2 "beside" ["floor","cell"] (iG Z.K)
abbrev wI(Z:Z5):Prop:=Ca9 Z 2 "is_corner" ["floor","cell"] (oB Z.K)
abbrev vc(Z:Z5):Prop:=Ca9 Z 2 "without" ["mask","sign"] (nV Z.K)
abbrev gR(Z:Z5):Prop:=Ca9 Z 2 "signs_in" ["mask"] (dm Z.K)
abbrev pR(Z:Z5):Prop:=Ca9 Z 2 "is_cell" ["floor","value"] (kP Z.K)
abbrev A7(Z:Z5)(c:Uk):Prop:=Ca9 Z 2 "goes_by" ["kind","rule"] (sJ Z.K c)
abbrev i7(Z:Z5)(c:Uk):Prop:=Ca9 Z 2 "others" ["rule","cell"] (fO Z.K c)
abbrev nZ(Z:Z5):Prop:=Ca9 Z 2 "many_may" ["some","sign"] (g8 Z.K)
abbrev zo(Z:Z5)(c:Uk):Prop:=Ca9 Z 2 "ahead_of" ["rule","cell"] (qu Z.K c)
abbrev DA(Z:Z5)(c:Uk):Prop:=Ca9 Z 2 "behind" ["rule","cell"] (uF Z.K c)
abbrev o6(Z:Z5):Prop:=Ca9 Z 2 "with_each_sign" ["fillings","cell","signs"] (jn Z.K)
abbrev rj(Z:Z5):Prop:=Ca9 Z 2 "is_supposing" ["thought"] (gm Z.K)
abbrev zp(Z:Z5):Prop:=Ca9 Z 2 "supposed" ["masks","cell","sign"] (qC Z.K)
abbrev lL(Z:Z5):Prop:=Ca9 Z 2 "number_within" ["word","least","most"] (gH Z.K)
abbrev vd(Z:Z5):Prop:=Ca9 Z 2 "is_filling" ["floor","filling","least"] (ni Z.K)
abbrev tH(Z:Z5):Prop:=Ca9 Z 2 "_law_joined" ["_law_floor_here","_law_some"] (j9 Z.K)
abbrev wJ(Z:Z5):Prop:=Ca9 Z 2 "_law_more" ["_law_kind","_law_number","_law_floor_here","_law_masks","_law_cells","_law_cell","_law_sign","_law_goal"] (mr Z.K)
abbrev jM(Z:Z5):Prop:=Ca9 Z 2 "_law_stands" ["_law_masks","_law_thought_here"] (cf Z.K)
abbrev zq(Z:Z5):Prop:=Ca9 Z 3 "floor_of" ["high","wide","signs"] (qm Z.K)
abbrev vf(Z:Z5):Prop:=Ca9 Z 3 "squares" ["floor"] (nS Z.K)
abbrev vg(Z:Z5):Prop:=Ca9 Z 3 "reached" ["floor","cells","start"] (lj Z.K)
abbrev lM(Z:Z5):Prop:=Ca9 Z 3 "has_only" ["mask","sign"] (g7 Z.K)
abbrev xQ(Z:Z5):Prop:=Ca9 Z 3 "struck" ["masks","cell","sign"] (pK Z.K)
abbrev Ip(Z:Z5):Prop:=Ca9 Z 3 "ways" ["masks"] (Am Z.K)
abbrev pS(Z:Z5):Prop:=Ca9 Z 3 "is_sign" ["floor","value"] (kQ Z.K)
abbrev rm(Z:Z5)(c:Uk)(d:Ul):Prop:=Ca9 Z 3 "has_its_rule" ["puzzle","kind","number","cell"] (kR Z.K c d)
abbrev pT(Z:Z5):Prop:=Ca9 Z 3 "is_no_greater" ["sign","mask"] (j5 Z.K)
abbrev vh(Z:Z5):Prop:=Ca9 Z 3 "is_no_less" ["sign","mask"] (nk Z.K)
abbrev rn(Z:Z5)(c:Uk):Prop:=Ca9 Z 3 "pair_strikes" ["rule","masks","cell","sign","more"] (k9 Z.K c)
abbrev tI(Z:Z5)(c:Uk):Prop:=Ca9 Z 3 "sum_strikes" ["rule","masks","cell","sign","more"] (l9 Z.K c)
abbrev DB(Z:Z5):Prop:=Ca9 Z 3 "around" ["floor","middle","cell"] (uJ Z.K)
abbrev rp(Z:Z5):Prop:=Ca9 Z 3 "first_within" ["words","least","most"] (fN Z.K)
abbrev vi(Z:Z5):Prop:=Ca9 Z 3 "told_cells" ["floor","words"] (m8 Z.K)
abbrev A8(Z:Z5)(c:Uk):Prop:=Ca9 Z 3 "rule_by" ["floor","words","cells","amount","mark"] (sC Z.K c)
abbrev pU(Z:Z5):Prop:=Ca9 Z 3 "checked_clues" ["floor","clues"] (jW Z.K)
abbrev pV(Z:Z5):Prop:=Ca9 Z 3 "_law_by_floor" ["_law_floor_here","_law_filling","_law_word","_law_sign"] (iR Z.K)
abbrev rq(Z:Z5):Prop:=Ca9 Z 3 "_law_thought" ["_law_number","_law_floor_here","_law_rules","_law_masks"] (jv Z.K)
abbrev qI(Z:Z5)(n:Nat):Prop:=Ca9 Z (1*n+0) "_law_many" ["_law_book"] (de Z.K n)
abbrev wK(Z:Z5)(c:Uk)(d:Ul):Prop:=Ca9 Z 4 "is_formed" ["puzzle","thought"] (oP Z.K c d)
abbrev mM(Z:Z5):Prop:=Ca9 Z 4 "many_only" ["some","sign"] (gw Z.K)
abbrev rz(Z:Z5)(c:Uk):Prop:=Ca9 Z 4 "only_strikes" ["rule","masks","cell","sign","more"] (kX Z.K c)
abbrev pW(Z:Z5)(c:Uk):Prop:=Ca9 Z 4 "place_strikes" ["floor","rule","masks","cell","sign","more"] (jZ Z.K c)
abbrev rA(Z:Z5)(c:Uk):Prop:=Ca9 Z 4 "step_strikes" ["rule","masks","cell","sign","more"] (ld Z.K c)
abbrev o7(Z:Z5):Prop:=Ca9 Z 4 "rest_of_square" ["floor","corner","cell"] (jf Z.K)
abbrev jG(Z:Z5):Prop:=Ca9 Z 4 "is_another_with_only" ["floor","masks","cell","other","mark"] (fD Z.K)
abbrev fS(Z:Z5)(c:Uk)(d:Ul):Prop:=Ca9 Z 4 "strikes_on_floor" ["puzzle","thought"] (cu Z.K c d)
abbrev zr(Z:Z5):Prop:=Ca9 Z 4 "cells_of" ["floor","name","words"] (qj Z.K)
abbrev pX(Z:Z5):Prop:=Ca9 Z 4 "checked_floor" ["floor"] (jU Z.K)
abbrev wL(Z:Z5):Prop:=Ca9 Z 4 "_law_rule" ["_law_number","_law_floor_here","_law_filling"] (mf Z.K)
abbrev nI(Z:Z5)(c:Uk)(d:Ul):Prop:=Ca9 Z 5 "strikes_by_line" ["puzzle","masks","thought"] (ig Z.K c d)
abbrev pY(Z:Z5)(c:Uk):Prop:=Ca9 Z 5 "count_strikes" ["rule","masks","cell","sign","more"] (j3 Z.K c)
abbrev o8(Z:Z5)(c:Uk):Prop:=Ca9 Z 5 "square_strikes" ["floor","rule","masks","cell","sign","more"] (jh Z.K c)
abbrev pZ(Z:Z5)(c:Uk):Prop:=Ca9 Z 5 "reach_strikes" ["floor","rule","masks","cell","sign","more"] (j7 Z.K c)
abbrev rB(Z:Z5)(c:Uk):Prop:=Ca9 Z 5 "turn_strikes" ["floor","rule","masks","cell","sign","more"] (lw Z.K c)
abbrev ku(Z:Z5)(c:Uk)(d:Ul):Prop:=Ca9 Z 5 "is_formed_supposing" ["puzzle","thought"] (eI Z.K c d)
abbrev o9(Z:Z5)(c:Uk)(d:Ul):Prop:=Ca9 Z 5 "is_passed_over" ["puzzle","masks","thought"] (ik Z.K c d)
abbrev kx(Z:Z5)(c:Uk)(d:Ul):Prop:=Ca9 Z 5 "strikes_what_stands" ["puzzle","masks","thought"] (eE Z.K c d)
abbrev wM(Z:Z5)(c:Uk):Prop:=Ca9 Z 5 "read_rule" ["floor","line"] (oN Z.K c)
abbrev rC(Z:Z5)(c:Uk):Prop:=Ca9 Z 6 "ways_strikes" ["rule","masks","cell","sign","more"] (lr Z.K c)
abbrev lS(Z:Z5)(c:Uk)(d:Ul):Prop:=Ca9 Z 6 "strikes_by_region" ["puzzle","masks","thought"] (fZ Z.K c d)
abbrev vj(Z:Z5)(c:Uk):Prop:=Ca9 Z 6 "read_rules" ["floor","lines"] (ng Z.K c)
abbrev lT(Z:Z5)(c:Uk)(d:Ul):Prop:=Ca9 Z 7 "strikes_by_number" ["puzzle","masks","thought"] (f9 Z.K c d)
abbrev A9(Z:Z5)(c:Uk)(d:Ul):Prop:=Ca9 Z 8 "strikes" ["puzzle","masks","thought"] (qz Z.K c d)
abbrev vk(Z:Z5)(c:Uk)(d:Ul):Prop:=Ca9 Z 9 "allowed" ["puzzle","masks","thought"] (jF Z.K c d)
abbrev n6(Z:Z5)(c:Uk)(d:Ul)(n:Nat):Prop:=Ca9 Z (1*n+9) "fault_in" ["puzzle","masks","thought"] (cR Z.K c d n)
abbrev i8(Z:Z5)(c:Uk)(d:Ul)(n:Nat):Prop:=Ca9 Z (1*n+9) "_law_fault" ["_law_puzzle","_law_masks","_law_thought_here"] (bx Z.K c d n)
abbrev DC(Z:Z5)(c:Uk)(d:Ul):Prop:=Ca9 Z 13 "let_by" ["puzzle","masks","thought"] (qE Z.K c d)
abbrev tJ(Z:Z5)(c:Uk)(d:Ul):Prop:=Lg Z.P Z.w Z.K Z.mg Z.base 13 "follow_from" ["puzzle","masks","book"] (gN Z.K c d)
abbrev zt(Z:Z5)(c:Uk)(d:Ul):Prop:=Ca9 Z 13 "_law_due" ["_law_puzzle","_law_masks","_law_book"] (nv Z.K c d)
abbrev p5(Z:Z5)(c:Uk)(d:Ul):Prop:=Ca9 Z 14 "_law_followed" ["_law_puzzle","_law_masks","_law_book"] (iY Z.K c d)
abbrev qJ(Z:Z5)(c:Uk)(d:Ul)(n:Nat):Prop:=Ca9 Z (1*n+12) "_law_made" ["_law_script","_law_at","_law_size","_law_depth","_law_ground","_law_masks"] (df Z.K c d n)
abbrev Fv(Z:Z5)(c:Uk)(d:Ul):Prop:=MCal Z.P Z.w Z.K Z.mg Z.base d d.ok 1 "clues" ["self"] (xy Z.K c d)
abbrev pb(Z:Z5)(c:Uk):Prop:=MCal Z.P Z.w Z.K Z.mg Z.base c c.ok 3 "has_two_beside" ["self","cells","cell"] (jd Z.K c)
abbrev Fw(Z:Z5)(c:Uk):Prop:=MCal Z.P Z.w Z.K Z.mg Z.base c c.ok 5 "holds" ["self","filling"] (fW Z.K c)
abbrev mO(Z:Z5)(c:Uk):Prop:=MCal Z.P Z.w Z.K Z.mg Z.base c c.ok 4 "is_joined" ["self","cells"] (kI Z.K c)
abbrev kh(Z:Z5)(c:Uk):Prop:=MCal Z.P Z.w Z.K Z.mg Z.base c c.ok 1 "marked" ["self","filling"] (ko Z.K c)
abbrev Iq(Z:Z5)(c:Uk):Prop:=MCal Z.P Z.w Z.K Z.mg Z.base c c.ok 1 "name" ["self"] (Ac Z.K c)
abbrev xR(Z:Z5)(c:Uk):Prop:=MCal Z.P Z.w Z.K Z.mg Z.base c c.ok 1 "number" ["self"] (kn Z.K c)
abbrev og(Z:Z5)(c:Uk)(d:Ul):Prop:=MCal Z.P Z.w Z.K Z.mg Z.base d d.ok 1 "place" ["self"] (jY Z.K c d)
abbrev rD(Z:Z5)(c:Uk)(d:Ul):Prop:=MCal Z.P Z.w Z.K Z.mg Z.base d d.ok 1 "rules" ["self"] (l8 Z.K c d)
abbrev vm(Z:Z5)(c:Uk):Prop:=MCal Z.P Z.w Z.K Z.mg Z.base c c.ok 1 "sign" ["self"] (l6 Z.K c)
abbrev lN(Z:Z5)(c:Uk):Prop:=MCal Z.P Z.w Z.K Z.mg Z.base c c.ok 1 "signs_at" ["self","filling"] (gZ Z.K c)
abbrev oh(Z:Z5)(c:Uk):Prop:=MCal Z.P Z.w Z.K Z.mg Z.base c c.ok 1 "spots" ["self"] (jQ Z.K c)
abbrev nJ(Z:Z5)(x:Str)(C:Addr)(c:Uk)(d:Ul):Prop:=KCal Z.P Z.w Z.K Z.mg Z.base 7 x C ["self","floor","lines","clues"] (du Z.K c d)
abbrev aN(Z:Z5)(x:Str)(C:Addr)(c:Uk):Prop:=KCal Z.P Z.w Z.K Z.mg Z.base 1 x C ["self","floor","words","cells","amount","mark"] (aW Z.K c)
section
variable{Z:Z5}(Bz:Bt3 Z)
include Bz
set_option maxHeartbeats 4000000
abbrev zu:Stmt:=top 16
theorem EE(D:De Z.K "is_whole" zu):gP Z:=okc Bz D Er bd1 #[";fiMt~nbXYa0a~k.v~l{mb't'ubcO~Pt~nbXYa0a~k.v~l{nb{o{pbc"]
abbrev vn:Stmt:=top 19
theorem BG(D:De Z.K "many_cells" vn):gA Z:=okc Bz D Bq bd1 #[";fim;jd0ejd0e"]
abbrev Ba:Stmt:=top 20
theorem Gz(D:De Z.K "spot_of" Ba):uX Z:=okc Bz D FP bd2 #[";gq#2 njd0efi?amZ12amJ12c"]
abbrev wN:Stmt:=top 23
theorem DD(D:De Z.K "square_at" wN):wE Z:=okc Bz D CH bd2 #[";gq#2 nmD1jd0efiya1amD1ea2amD2ec"]
abbrev DE:Stmt:=top 27
theorem Ir(D:De Z.K "bit_of" DE):xP Z:=okc Bz D HB bd1 #[";gq#1 neg[+b~qb~camP0ecw.i#2 nbvbfq#1 nm;1efi1"]
abbrev DF:Stmt:=top 28
theorem Iu(D:De Z.K "stands" DF):kf Z:=okc Bz D HA bd2 #[";fiMx~de1klMx~d1'O'P'Q'R'S0klOxudmJm~+0mP1eeekl"]
abbrev Bb:Stmt:=top 33
theorem GA(D:De Z.K "clashes" Bb):mW Z:=okc Bz D F2 bd1 #[";fix~ide0`0",(by with_unfolding_all rfl)]
abbrev zv:Stmt:=top 44
theorem EF(D:De Z.K "masks_at" zv):gQ Z:=okc Bz D Ev bd2 #[";fiF.x&--0 `0Eb%bbbbG1$w.i#1 @`0bvb$V$jd21",[".0","cell","masks"]]
abbrev rE:Stmt:=top 49
theorem zw(D:De Z.K "clue_strikes" rE):rh Z:=okc Bz D yR bd4 #[";fiMxud3ycklMxLdjd01eklOxLdjd012kl"]
abbrev lU:Stmt:=top 57
theorem tq(D:De Z.K "are_told_in_order" lU):lR Z:=okc Bz D sP bd2 #[";grKIpLdtCbzBa1ceklIp~mdjd1e0`0Up~mdjd1e0`0fiNsfix*]^~-~/~:d0ajd1ec]^~-~/~:d0ajd1eckl",(by with_unfolding_all rfl)]
abbrev wO:Stmt:=top 65
theorem DG(D:De Z.K "with_sign" wO):qG Z:=okc Bz D CZ bd3 #[";fiF.x&---12 `0Eb%bbbb~;b~?a0c$~rbTw.i#1 @`0bvbTw.i#2 @`0bvb~s$V$~Fpud13kl42",[".0","place","other","cell","sign"]]
abbrev wP:Stmt:=top 82
theorem DH(D:De Z.K "has_parts" wP):qH Z:=okc Bz D At bd1 #[";fiMt~nbXYa0a~k.v~l'vb~Q~RbcOxudtCbzBa0cekl"]
abbrev wQ:Stmt:=top 93
theorem DI(D:De Z.K "is_within" wQ):wF Z:=okc Bz D CW bd2 #[";fit~tbb~u~vaF.x&--1 `0Eb%bbbbG0$w.i#1 @`0bvb$V$x~id12`1c",[".0","cell","cells"],(by with_unfolding_all rfl)]
abbrev p6:Stmt:=mtop 94 0
theorem xS{c:Uk}(MA:FldK Z.K c "amount")(ME:FldK Z.K c "cells")(MI:FldK Z.K c "floor")(MU:FldK Z.K c "mark")(Nh:FldK Z.K c "words"){f:Addr}(D:Me Z.K "__init__" "Rule.__init__" p6 f):Mo Z 1 f ["self","floor","words","cells","amount","mark"] (aW Z.K c):=okm D xt bd6 #[";g~C01~[g~C0~f'Tb~Q~Ra2c'Ug~C0~f'Tb~Q~Ra3c~]g~C04~Sf~C05'w"]
abbrev wR:Stmt:=mtop 94 1
theorem DJ{c:Uk}(Nh:FldK Z.K c "words"){f:Addr}(D:Me Z.K "name" "Rule.name" wR f):Mo Z 1 f ["self"] (uw Z.K c):=okm D CI bd1 #[";fijd-0'Ue"]
abbrev vo:Stmt:=mtop 94 2
theorem BH{c:Uk}(ME:FldK Z.K c "cells"){f:Addr}(D:Me Z.K "spots" "Rule.spots" vo f):Mo Z 1 f ["self"] (tD Z.K c):=okm D Br bd1 #[";fi~f~wb~a~ga-0~]c"]
abbrev tK:Stmt:=mtop 94 3
theorem AC{c:Uk}(MA:FldK Z.K c "amount"){f:Addr}(D:Me Z.K "number" "Rule.number" tK f):Mo Z 1 f ["self"] (qY Z.K c):=okm D Ad bd1 #[";fi-0~S"]
abbrev wS:Stmt:=mtop 94 4
theorem DL{c:Uk}(MU:FldK Z.K c "mark"){f:Addr}(D:Me Z.K "sign" "Rule.sign" wS f):Mo Z 1 f ["self"] (ux Z.K c):=okm D CJ bd1 #[";fi-0'w"]
abbrev p7:Stmt:=mtop 94 8
theorem xT{c:Uk}(ME:FldK Z.K c "cells"){f:Addr}(D:Me Z.K "signs_at" "Rule.signs_at" p7 f):Mo Z 1 f ["self","filling"] (oJ Z.K c):=okm D xu bd2 #[";fiF.x&--1 `0Eb%bbbb'V-0~]$w.i#1 @`0bvb$V$jd21",[".0","cell","filling"]]
abbrev tL:Stmt:=mtop 94 9
theorem mF{c:Uk}(ME:FldK Z.K c "cells")(MU:FldK Z.K c "mark"){f:Addr}(D:Me Z.K "marked" "Rule.marked" tL f):Mo Z 1 f ["self","filling"] (qZ Z.K c):=okm D Ak bd2 #[";fiF.x&--10 `0Eb%bbbb'V-0~]$w.i#1 @`0bvb$Wpudjd21-3'wkl$1",[".0","cell","filling","self"]]
abbrev wT:Stmt:=top 110
theorem DM{t_FIGURES:Tok}(OH:Z.mg "FIGURES"=some (.str (tx [48,49,50,51,52,53,54,55,56,57]) t_FIGURES)){t_MOST_FIGURES:Tok}(NM:Z.mg "MOST_FIGURES"=some (.int 9 t_MOST_FIGURES))(D:De Z.K "number_in" wT):wG Z:=okc Bz D CK bd1 #[";grKIpud0HklIp/tCbzBa0c`0klUK~bpudjd0eHkl~hpLd0Hklfi:sgrQAt~tbb~u~vaF.x&-- `1Eb%bbbb{q0$w.i#1 @`1bvb$V$x~id1`2`3cfi:sfi~f'Wb't'ua0c",(bB rfl NM ⟨t_MOST_FIGURES,rfl⟩),[".0","figure"],(bB rfl OH ⟨t_FIGURES,rfl⟩),(by with_unfolding_all rfl)]
abbrev rF:Stmt:=mtop 123 1
theorem zx{c:Uk}{d:Ul}(MY:FldK Z.K d "floor"){f:Addr}(D:Me Z.K "place" "Puzzle.place" rF f):Mo Z 1 f ["self"] (pD Z.K c d):=okm D yM bd1 #[";fi-0~^"]
abbrev rG:Stmt:=mtop 123 3
theorem zy{c:Uk}{d:Ul}(Ni:FldK Z.K d "given"){f:Addr}(D:Me Z.K "clues" "Puzzle.clues" rG f):Mo Z 1 f ["self"] (pE Z.K c d):=okm D yN bd1 #[";fi~f~wb~a~ga-0'Xc"]
abbrev rH:Stmt:=mtop 123 4
theorem zA{c:Uk}{d:Ul}(Nt:FldK Z.K d "laws"){f:Addr}(D:Me Z.K "rules" "Puzzle.rules" rH f):Mo Z 1 f ["self"] (pF Z.K c d):=okm D yO bd1 #[";fi~f~wb~a~ga-0'Yc"]
abbrev rJ:Stmt:=top 125
theorem zB(D:De Z.K "_law_cell_at" rJ):mE Z:=okc Bz D wm bd2 #[";grpudt'xbzBa0ceklfimJmDm;m;11em;e1esgq#2 nmJ{r{s0mJ1t'xbzBa0c`0egrp*1t'xbzBa0cklfi2sfimJmDm;2em;m;11ee",(λ_ _=>rfl)]
abbrev vp:Stmt:=top 126
theorem BK(D:De Z.K "_law_floor" vp):uY Z:=okc Bz D y7 bd1 #[";gq#1 nmDemJ0egq#2 nmDemJmZ0et'Zbb'*'+aeamZe1cfi?a1a2amDemJmZ0eec"]
abbrev wU:Stmt:=top 127
theorem DN(BX_divmod:Z.mg "divmod"=none)(D:De Z.K "_law_near" wU):mL Z:=okc Bz D Da bd2 #[";g~Gt{tb{u{va1ajd0ec~rbTw.i#2 nbvbTw.i#3 nbvb~sgq#4 nycg[+bGya?amP2ea3ca?a2amP3eca?a2amD3eca?amD2ea3cc~rbTw.i#5 nbvbTw.i#6 nbvb~sfrK~b'-~d*e5jd0e~h'-~d*e6jd0ef~o]^~x~y~z4amDm;5jd0e6csfi4"]
abbrev vq:Stmt:=top 130
theorem BL(D:De Z.K "_law_drawn" vq):uZ Z:=okc (N:=["_law_number","_law_many_here","_law_size","_law_left","_law_found","_law_k"]) Bz D y8 bd3 #[";gq#3 n'/bbb~a~ca1cgq#4 nycg[+b~qb~ca2cw.i#5 nbvbg~o]^~x~y~z4a]^{w{x{y3amJ0tCbzBa3cccfq#0 nmJm;0eefi4"]
abbrev vt:Stmt:=top 131
theorem BM(D:De Z.K "_law_above" vt):u8 Z:=okc Bz D y9 bd2 #[";gq#2 nycg[+bG1w.i#3 nbvbfrKIpud2ycklUp/jd03jd0jd2'a'beklf~o]^~x~y~z2a3csfi2"]
abbrev vv:Stmt:=top 133
theorem BN(D:De Z.K "_law_signs" vv):u9 Z:=okc Bz D za bd1 #[";fiF.x&--0 `0Eb%bbbb'yb~caeaec$w.i#1 @`0bvb$Wpudm'zm~+2mP1eeekl$1",[".0","_law_sign","_law_mask"]]
abbrev zC:Stmt:=top 133
theorem xU(D:De Z.K "_law_signs" zC):pQ Z:=okc Bz D zn bd1 #[";fiF.x&--0 `0Eb%bbbb'yb~caeaec$w.i#1 @`0bvb$Wpudm'zm~+2mP1eeekl$1",[".0","_law_sign","_law_mask"]]
abbrev vw:Stmt:=top 135
theorem BO(D:De Z.K "_law_kinds" vw):va Z:=okc Bz D zc bd1 λc a b=>by
 refine af ?_ ?_
 . exact(au (ak (aw a) (pv 0) av (aj _)) (ag (ah (aC (aa av (aa av (aa av (aa av (aa av ad)))))))) ao)
 . refine af ?_ ?_
   . exact(au (ak (aw a) (pv 0) av (aj _)) (ag (ah (aC (aa av (aa av (aa av ad)))))) ao)
   . refine af ?_ ?_
     . exact(kset 1 b (aC (aa av (aa av (aa av (aa av (aa av (aa av ad))))))))
     . refine ag ?_
       . refine ah ?_
         . refine yj ?x ?l ?j ?p
           case x=>exact(IK a)
           case p=>exact(λ_ _=>rfl)
           case j=>exact(dh Qu RB RD (mS a) (pv 1) (aa (pv 0) ad))
           case l=>
            refine aC ?_
            . refine aa ?_ ?_
              . exact(aC (aa av (aa av ad)))
              . refine aa ?_ ?_
                . exact(aC (aa av (aa av ad)))
                . exact(aa (aC (aa av ad)) (aa (aC (aa av (aa av ad))) (aa (aC (aa av ad)) (aa (aC (aa av ad)) ad))))
abbrev tM:Stmt:=top 137
theorem AD(D:De Z.K "_law_inside" tM):nB Z:=okc Bz D xI bd2 #[";fiM':~d*ejd1etCbzBa0cO':~d~dejd1ee"]
abbrev tN:Stmt:=top 139
theorem AE(D:De Z.K "_law_behind" tN):jL Z:=okc Bz D xK bd2 #[";gq#2 n~f~wb~a~ga0cg~GmPjd2jd1em'cemPjd1ee'A2jd1e'Bdfi2"]
abbrev wV:Stmt:=top 141
theorem DO(D:De Z.K "_law_bent" wV):wH Z:=okc Bz D Au bd2 #[";g~G0~rbTw.i#2 nbvbTw.i#3 nbvbTw.i#4 nbvbTw.i#5 nbvbTw.i#6 nbvb~sgq#7 nmDemJm;m;111m{zeegq#8 nmJ1egq#9 njdya'a'beaea7amPe7cmJmZ1eegrpud8eklfq#4 n9sgrpud8eklfq#5 njdya9aeaecmJmZ1eesgrpud8eklfq#3 n9sfi?a2a3a4a5a6c"]
abbrev vx:Stmt:=top 145
theorem BP{a:EA}(EM:ErrMx Z.mg a)(R_BadThought:xM Z.K a "BadThought" a.BadThought (uR a))(BV:Z.mg "ValueError"=none)(D:De Z.K "_law_other" vx):vb Z:=okc Bz D (λh=>zm R_BadThought h) bd1 #[";grKIAt~pbXYa0a~Ab{AbcIAt~pbXYa0a~Ab{BbcIAt~pbXYa0a~Ab{CbcUAt~pbXYa0a~Ab{DbcfiNsgrKIAt~pbXYa0a~Ab{EbcIAt~pbXYa0a~Ab{FbcIAt~pbXYa0a~Ab{GbcUAt~pbXYa0a~Ab{HbcfiNsfi~Pt~pbXYa0a~k.v~l`0b{I{Jbc","ValueError"]
abbrev pc:Stmt:=top 17
theorem wn(Mx:gP Z)(D:De Z.K "is_from_one_to" pc):kg Z:=okc Bz D vZ bd2 #[";fiMo~Nha0cMx~de0klOx~d01kl"]
abbrev DP:Stmt:=top 21
theorem Iv(Nu:uX Z)(D:De Z.K "beside" DP):o5 Z:=okc Bz D Hm bd2 #[";gq#2 njd0egq#3 njd0egq#4 no';ha0a1cgq#5 nycgrp/jd4eeklf~o]^~x~y~z5amP13csgrp/jd4eeklf~o]^~x~y~z5amP1ecsgrp*jd4emP3eklf~o]^~x~y~z5amD1ecsgrp*jd4emP2eklf~o]^~x~y~z5amD13csfi5"]
abbrev wW:Stmt:=top 22
theorem DQ(Nu:uX Z)(D:De Z.K "is_corner" wW):wI Z:=okc Bz D CG bd2 #[";gq#2 no';ha0a1cfiMx*jd2emPjd0eeklOx*jd2emPjd0eekl"]
abbrev Bc:Stmt:=top 29
theorem GB(NN:xP Z)(MD:kf Z)(D:De Z.K "without" Bc):vc Z:=okc Bz D FW bd2 #[";fi~FAo~Oha0a1cmP0o'?ha1c0"]
abbrev zD:Stmt:=top 31
theorem EG(MD:kf Z)(D:De Z.K "signs_in" zD):gR Z:=okc Bz D Eu bd1 #[";fiF.x&--0 `0Eb%bbbb'yb~caeamD'O'P'Q'R'S0ec$w.i#1 @`0bvb$WAo~Oha2a1c$1",[".0","sign","mask"]]
abbrev Be:Stmt:=top 38
theorem GC(Mx:gP Z)(Mw:gA Z)(D:De Z.K "is_cell" Be):pR Z:=okc Bz D FX bd2 #[";fiMo~Nha1cMx~de1klOx*1o~Tha0ckl"]
abbrev Bf:Stmt:=top 40
theorem GD{c:Uk}(Pj:Iq Z c)(Nz:GDict Z.w Z.K Z.mg "RULES_OF_KIND" gd_RULES_OF_KIND)(D:De Z.K "goes_by" Bf):A7 Z c:=okc Bz D FZ bd2 #[";fi~Uxud0HklOx{KR{Lh!1{M{N0b`0`1",(λ_ _=>rfl),(by with_unfolding_all rfl)]
abbrev DR:Stmt:=top 43
theorem Iw{c:Uk}(MP:oh Z c)(D:De Z.K "others" DR):i7 Z c:=okc Bz D HC bd2 #[";fiF.x&--1 `0Eb%bbbbGR~Vh!0$w.i#1 @`0bvb$WpLd12kl$1",[".0","spot","cell"]]
abbrev zE:Stmt:=top 46
theorem EH(MD:kf Z)(D:De Z.K "many_may" zE):nZ Z:=okc Bz D Ew bd2 #[";fitCbzBaF.x&--1 `0Eb%bbbbG0$w.i#1 @`0bvb$WAo~Oha1a2c$1c",[".0","mask","sign"]]
abbrev zF:Stmt:=top 52
theorem EI{c:Uk}(MP:oh Z c)(D:De Z.K "ahead_of" zF):zo Z c:=okc Bz D Ex bd2 #[";gq#2 nR~Vh!0gq#3 n]^~-~/~:d2a1cfi~Fp/3ekl~H~I2~BmP3e~B3yc"]
abbrev DS:Stmt:=top 53
theorem Ix{c:Uk}(MP:oh Z c)(D:De Z.K "behind" DS):DA Z c:=okc Bz D HG bd2 #[";gq#2 nR~Vh!0gq#3 n]^~-~/~:d2a1cfi~H~I2~BmD3e~BmD3e"]
abbrev pe:Stmt:=top 66
theorem wo(M8:qG Z)(D:De Z.K "with_each_sign" pe):o6 Z:=okc Bz D wj bd3 #[";gq#3 nycg[+bG0w.i#4 nb~Dbf~o]^{O{P{Q3aF.x&--14 `0Eb%bbbbG2$w.i#1 @`0bvb$V$o'[ha3a2a1ccfi3",[".0","sign","cell","filling"]]
abbrev rK:Stmt:=top 83
theorem zG(M9:qH Z){t_SUPPOSE:Tok}(OI:Z.mg "SUPPOSE"=some (.str (tx [115,117,112,112,111,115,101]) t_SUPPOSE))(D:De Z.K "is_supposing" rK):rj Z:=okc Bz D wl bd1 #[";fiMo']ha0cOxudjd0e`0kl",(bB rfl OI ⟨t_SUPPOSE,rfl⟩)]
abbrev zH:Stmt:=top 86
theorem EJ(NN:xP Z)(D:De Z.K "supposed" zH):zp Z:=okc Bz D EB bd3 #[";fiF.x&---12 `0Eb%bbbb~;b~?a0c$~rbTw.i#1 @`0bvbTw.i#2 @`0bvb~s$V$~Fpud13klo'?ha4c2",[".0","place","mask","cell","sign"]]
abbrev rL:Stmt:=mtop 95 0
theorem zI{c:Uk}(MJ:lN Z c){f:Addr}(D:Me Z.K "holds" "Unlike.holds" rL f):Mo Z 2 f ["self","filling"] (pC Z.K c):=okm D yJ bd2 #[";gq#2 n~j'dh!0a1cfixud'^bbbz{a2tCbzBa2ckl"]
abbrev wX:Stmt:=mtop 96 1
theorem DT{c:Uk}(MA:FldK Z.K c "amount")(MJ:lN Z c){f:Addr}(D:Me Z.K "holds" "Sum.holds" wX f):Mo Z 2 f ["self","filling"] (uI Z.K c):=okm D CV bd2 #[";fixudt'ebb'f'ga~j'dh!0a1cc-0~Skl"]
abbrev rM:Stmt:=mtop 97 1
theorem zJ{c:Uk}(MJ:lN Z c){f:Addr}(D:Me Z.K "holds" "Rising.holds" rM f):Mo Z 2 f ["self","filling"] (pH Z.K c):=okm D yY bd2 #[";g~J.i#2 nb~Db~j'dh!0a1cfit~tbb~u~vaF.x&--2 `0Eb%bbbb~qb~camPtCbzBa2cec$w.i#1 @`0bvb$V$x*jd21jd2mD1eklc",[".0","place","signs"]]
abbrev vy:Stmt:=mtop 98 1
theorem BQ{c:Uk}(MA:FldK Z.K c "amount")(MJ:lN Z c){f:Addr}(D:Me Z.K "holds" "Seen.holds" vy f):Mo Z 2 f ["self","filling"] (tF Z.K c):=okm D By bd2 #[";gq#2 negq#3 neg[+bG~j'dh!0a1cw.i#4 nbvbfrp/42klgq#2 n4fq#3 nmD3esfixud3-0~Skl"]
abbrev tO:Stmt:=mtop 99 0
theorem AF{c:Uk}(MA:FldK Z.K c "amount")(M2:kh Z c){f:Addr}(D:Me Z.K "holds" "Count.holds" tO f):Mo Z 2 f ["self","filling"] (ra Z.K c):=okm D Al bd2 #[";fixudtCbzBa~j'hh!0a1cc-0~Skl"]
abbrev p8:Stmt:=top 111
theorem xV(Ol:wG Z)(D:De Z.K "number_within" p8):lL Z:=okc Bz D xv bd3 #[";gq#3 no{Rha0cgrKIp~W3:klIp*31klUp/32klf~esfi3"]
abbrev vz:Stmt:=top 121
theorem BR(Mx:gP Z)(Mw:gA Z)(D:De Z.K "is_filling" vz):vd Z:=okc Bz D Bv bd3 #[";grKIQAt~nbXYa1a~k.v~l'ib~a~gbcUpLdtCbzBa1co~Tha0cklfiNsfit~tbb~u~vaF.x&--02 `0Eb%bbbbG1$w.i#1 @`0bvb$V$Mo~Nha1cMx~d31klOx~d1jd2eklc",[".0","sign","floor","least"]]
abbrev tP:Stmt:=top 128
theorem AG(MS:mL Z)(D:De Z.K "_law_joined" tP):tH Z:=okc Bz D xG bd2 #[";g~J.i#2 nb~Db~H~I1~X~Begq#3 neg{b+p*3tCbzBa2cklg~J.i#2 nb~DbmD2F.x&--21 `0Eb%bbbbGo'Cha0ajd23c$w.i#1 @`0bvb$WK~bp~id13`1~hp~md12`1$1fq#3 nmD3efixudtCbzBa2ctCbzBa1ckl",[".0","_law_cell","_law_seen","_law_some"],(by with_unfolding_all rfl)]
abbrev wY:Stmt:=top 134
theorem DU(MS:mL Z)(D:De Z.K "_law_more" wY):wJ Z:=okc (N:=["_law_kind","_law_number","_law_floor_here","_law_masks","_law_cells","_law_cell","_law_sign","_law_goal","_law_one","_law_others","_law_other_here","_law_must","_law_near_here"]) Bz D Ar bd8 #[";gq#9 nmDF.x&--5 `0Eb%bbbbG4$w.i#1 @`0bvb$WpLd12kl$1ya5cgq#8 nmJ1tCbzBa9cgq#10 nt'Zbb'*'+amDmD8emJmZ1etCbzBa9camPtCbzBa9cecgrpud0Hklfiyajd98csgrpud0HklfiyamDemJ1jd2ecsgrpud0Hklfiyajd98ajd9|acsgrpud0Hklfiyat{Sbb{T{UaeamP5jdyaeaeajd2eamDjd2eecmJ1eccsgrpud0Hklgq#11 nmDF.x&--573 `1Eb%bbbb~qb~catCbzBa3cc$w.i#1 @`1bvb$WK~bpLd12kl~hpudjd41m'cemP3ekl$1yaecfi~H~Iyajd|bmJ1tCbzBa|bcajd|bmP'a'bemJmZ1etCbzBa|bcc~X~BmPe~f'Wb't'uaxud67klcsgq#12 nmDo'Cha2a5cyaecgrK~bpud0Hkl~hpudmJ1eeklfiyajd|cmJmZ1etCbzBa|cccsfiyc",[".0","_law_one","_law_cell"],[".0","_law_at","_law_cell","_law_goal","_law_masks"]]
abbrev tQ:Stmt:=top 138
theorem AH(MW:nB Z)(D:De Z.K "_law_stands" tQ):jM Z:=okc Bz D xJ bd2 #[";fiMo'Dha0a1cOxudm'zm~+jd0jd1emPjd1eeeekl"]
abbrev zK:Stmt:=top 18
theorem EK(MF:kg Z){t_MOST_CELLS:Tok}(N6:Z.mg "MOST_CELLS"=some (.int 16 t_MOST_CELLS)){t_MOST_SIDE:Tok}(N0:Z.mg "MOST_SIDE"=some (.int 6 t_MOST_SIDE)){t_MOST_SIGNS:Tok}(N7:Z.mg "MOST_SIGNS"=some (.int 6 t_MOST_SIGNS))(D:De Z.K "floor_of" zK):zq Z:=okc Bz D Es bd3 #[";grQAo'jha0a`0cf~esgrQAo'jha1a`0cf~esgrp/m;01`1klf~esgrQAo'jha2a`2cf~esfi?a0a1a2c",(bB rfl N0 ⟨t_MOST_SIDE,rfl⟩),(bB rfl N6 ⟨t_MOST_CELLS,rfl⟩),(bB rfl N7 ⟨t_MOST_SIGNS,rfl⟩)]
abbrev Bg:Stmt:=top 24
theorem GE(Om:wI Z)(Mw:gA Z)(On:wE Z)(D:De Z.K "squares" Bg):vf Z:=okc Bz D FT bd1 #[";fiF.x&--0 `0Eb%bbbb~qb~cao~Tha0cc$w.i#1 @`0bvb$WAo{Vha2a1c$o{Wha2a1c",[".0","cell","floor"]]
abbrev Bh:Stmt:=top 25
theorem GF(MQ:o5 Z)(D:De Z.K "reached" Bh):vg Z:=okc Bz D F3 bd3 #[";grp~md21`0fiycsgq#3 nya2cgq#4 neg{b+p*4tCbzBa3cklg[+bGo~Yha0ajd34cw.i#5 nbvbfrK~bp~id51`0~hp~md53`0f~o]^~x~y~z3a5csfq#4 nmD4efit{Xb{Y{Za3c",(by with_unfolding_all rfl)]
abbrev zL:Stmt:=top 30
theorem EL(Nv:vc Z)(D:De Z.K "has_only" zL):lM Z:=okc Bz D Et bd2 #[";fixudo{cha0a1cekl"]
abbrev DW:Stmt:=top 32
theorem Iy(Nv:vc Z)(D:De Z.K "struck" DW):xQ Z:=okc Bz D HW bd3 #[";fiF.x&---12 `0Eb%bbbb~;b~?a0c$~rbTw.i#1 @`0bvbTw.i#2 @`0bvb~s$V$~Fpud13klo{cha2a4c2",[".0","place","mask","cell","sign"]]
abbrev Iz:Stmt:=top 34
theorem KC(Mu:gR Z)(D:De Z.K "ways" Iz):Ip Z:=okc Bz D Kh bd1 #[";gq#1 neg[+bG0w.i#2 nbvbfq#1 nm;1tCbzBao~Kha2ccfi1"]
abbrev Bi:Stmt:=top 39
theorem GG(MF:kg Z)(D:De Z.K "is_sign" Bi):pS Z:=okc Bz D FY bd2 #[";fio'jha1ajd0ec"]
abbrev rN:Stmt:=top 41
theorem zM{c:Uk}{d:Ul}(OJ:A7 Z c)(Mx:gP Z)(MX:rD Z c d)(MP:oh Z c)(D:De Z.K "has_its_rule" rN):rm Z c d:=okc Bz D yP bd4 #[";grKIQAo~Nha2cUp*2eklfiNsgrpud1Hklfixud2eklsgq#4 nR'kh!0grp'l2tCbzBa4cklfiNsfiMo{*ha1ajd42cOx~id3R~Vh!jd42`0",(by with_unfolding_all rfl)]
abbrev p9:Stmt:=top 54
theorem xW(Mu:gR Z)(D:De Z.K "is_no_greater" p9):pT Z:=okc Bz D xB bd2 #[";fit~tbb~u~vaF.x&--0 `0Eb%bbbbGo~Kha1c$w.i#1 @`0bvb$V$x~d21klc",[".0","other","sign"]]
abbrev vA:Stmt:=top 55
theorem BS(Mu:gR Z)(D:De Z.K "is_no_less" vA):vh Z:=okc Bz D Bw bd2 #[";fit~tbb~u~vaF.x&--0 `0Eb%bbbbGo~Kha1c$w.i#1 @`0bvb$V$x'l21klc",[".0","other","sign"]]
abbrev rO:Stmt:=top 58
theorem zN{c:Uk}(Na:lR Z)(MC:i7 Z c)(Mu:gR Z)(D:De Z.K "pair_strikes" rO):rn Z c:=okc Bz D yV bd5 #[";grQAo{+hao~Lha0a2ca4cfiNsgq#5 no~Kham{-jd1jd4ejd1jd4ecfix~dtCbzBaF.x&--3 `0Eb%bbbbG5$w.i#1 @`0bvb$WpLd12kl$1cekl",[".0","other","sign"]]
abbrev tR:Stmt:=top 64
theorem AI{c:Uk}(MM:mW Z)(Mv:gQ Z)(MC:i7 Z c)(Mu:gR Z)(Nf:xR Z c)(D:De Z.K "sum_strikes" tR):tI Z c:=okc Bz D Aj bd5 #[";grpLd4ycklfiNsgq#5 no~Mha1ao~Lha0a2ccgrAo'mha5cfiNsgq#6 nmD3t'ebb'f'gaF.x&-- `0Eb%bbbbG5$w.i#1 @`0bvb$V$jdo~Kha1cecgq#7 nmD3t'ebb'f'gaF.x&-- `0Eb%bbbbG5$w.i#1 @`0bvb$V$jdo~Kha1c'a'becfi~Ux/6R'nh!0klOx*7R'nh!0kl",[".0","mask"]]
abbrev DY:Stmt:=top 74
theorem IA(MQ:o5 Z)(D:De Z.K "around" DY):DB Z:=okc Bz D HQ bd3 #[";fiF.x&--2 `0Eb%bbbbGo~Yha0a1c$w.i#1 @`0bvb$WpLd12kl$1",[".0","other","cell"]]
abbrev ky:Stmt:=mtop 102 1
theorem qK{c:Uk}(MQ:o5 Z)(MI:FldK Z.K c "floor"){f:Addr}(D:Me Z.K "has_two_beside" "Ring.has_two_beside" ky f):Mo Z 3 f ["self","cells","cell"] (jE Z.K c):=okm D qw bd3 #[";fixudtCbzBaF.x&--1 `0Eb%bbbbGo~Yha-0~[a2c$w.i#1 @`0bvb$Wp~id12`1$1cekl",[".0","other","cells"],(by with_unfolding_all rfl)]
abbrev rP:Stmt:=top 112
theorem zO(MV:lL Z)(D:De Z.K "first_within" rP):rp Z:=okc Bz D yE bd3 #[";grpud0ycklf~esfio{dhajd0ea1a2c"]
abbrev vC:Stmt:=top 113
theorem BT(Mw:gA Z)(MV:lL Z)(D:De Z.K "told_cells" vC):vi Z:=okc Bz D Bs bd2 #[";g{e.k#2 nbvbb.x&--0 `0Eb%bbbbG1$w.i#1 @`0bvb$V$o{dha1aeamPo~Tha2cecgrpud2ycklf~esgrpLd'^bbbz{a2tCbzBa2cklf~esfi2",[".0","word","floor"]]
abbrev Bj:Stmt:=top 115
theorem GH{c:Uk}(O8:aN Z "Count" (c.A .Count) c)(OR:aN Z "Joined" (c.A .Joined) c)(OA:aN Z "NoSquare" (c.A .NoSquare) c)(Pk:aN Z "Ring" (c.A .Ring) c)(OS:aN Z "Rising" (c.A .Rising) c)(Pl:aN Z "Seen" (c.A .Seen) c)(K_Sum:aN Z "Sum" (c.A .Sum) c)(OT:aN Z "Unlike" (c.A .Unlike) c)(D:De Z.K "rule_by" Bj):A8 Z c:=okc Bz D FV bd5 #[";gq#5 njd1egrpud5Hklfi~E{/h!ba0a1a2a3a4csgrpud5Hklfi~E{:h!ba0a1a2a3a4csgrpud5Hklfi~E{;h!ba0a1a2a3a4csgrpud5Hklfi~E{?h!ba0a1a2a3a4csgrpud5Hklfi~E{[h!ba0a1a2a3a4csgrpud5Hklfi~E{]h!ba0a1a2a3a4csgrpud5Hklfi~E{^h!ba0a1a2a3a4csgrpud5Hklfi~E}ah!ba0a1a2a3a4csf~e"]
abbrev qb:Stmt:=top 122
theorem xX(N8:vd Z)(D:De Z.K "checked_clues" qb):pU Z:=okc Bz D xx bd2 #[";grQAo}bha0a1aecf~esfi~f~wb~a~ga1c"]
abbrev qc:Stmt:=top 129
theorem xY(N1:tH Z)(MS:mL Z)(D:De Z.K "_law_by_floor" qc):pV Z:=okc Bz D uP bd4 #[";g~J.i#5 nb~DbF.x&--13 `0Eb%bbbb~qb~catCbzBa1cc$w.i#1 @`0bvb$Wpudjd213kl$1grpud2Hklg[+bG5w.i#4 nbvbgq#6 nya4amD4eamD4jd0eamDmD4jd0eecfrK~bp/mJmD4ejd0eekl~hpudF.x&--5 `1Eb%bbbbG6$w.i#1 @`1bvb$Wp~md12`2$1ycklfiNsfiNsgrQAo}cha0a5cfiNsgrpud2HklfiNsfixudF.x&--05 `3Eb%bbbbG5$w.i#1 @`3bvb$WpLdtCbzBaF.x&--3 `1Eb%bbbbGo'Cha2a1c$w.i#1 @`1bvb$Wp~id12`2$1cekl$1yckl",[".0","_law_cell","_law_filling","_law_sign"],[".0","_law_one","_law_some"],(by with_unfolding_all rfl),[".0","_law_cell","_law_floor_here","_law_some"]]
abbrev rQ:Stmt:=top 136
theorem zP(N9:va Z)(Oo:wJ Z)(Oa:u9 Z)(D:De Z.K "_law_thought" rQ):rq Z:=okc Bz D wk bd4 #[";gq#4 nmJmZ0etCbzBa2cg~Gjd24~rbTw.i#5 nbvbTw.i#6 nbvbTw.i#7 nbvbTw.i#8 nbvb~sgq#9 njd6mJmZ0etCbzBa6cgq#10 nmDo}dhajd39cyaecgq#11 njd|amJmZ0etCbzBa|acgrpudmJ0eeklfi?aHaea9a|bayccsgq#12 no}eha5cgq#13 njd|cmJmZ0etCbzBa|ccfi?a|da4a9a|bao}fha|damZ0ea1a3a6a9a|ba7cc"]
abbrev wZ:Stmt:=top 143
theorem DZ{n:Nat}(Nl:qI Z n)(D:De Z.K "_law_many" wZ):Ca9 Z (1*n+1) "_law_many" ["_law_book"] (de Z.K (n+1)):=okc Bz D Ax bd1 (len:=Aw) #[";fimDt'ebb'f'gaF.x&-- `0Eb%bbbbG0$w.i#1 @`0bvb$Wpudjd1eHkl$mDeS}ghajd1ecctCbzBa0c",[".0","_law_thought_here"]]
abbrev w5:Stmt:=top 42
theorem Ea{c:Uk}{d:Ul}(NO:rm Z c d)(MZ:pR Z)(M0:pS Z)(Mx:gP Z)(MR:og Z c d)(O9:GTup Z.K Z.mg "KINDS" sG)(D:De Z.K "is_formed" w5):wK Z c d:=okc Bz D CO bd2 #[";grKIQAt~nbXYa1a~k.v~l'vb~Q~RbcIpLdtCbzBa1ceklU{f}hjd1ebfiNsgq#2 nR~Zh!0grKIQAo'Eha2ajd1ecUQAo'Fha2ajd1ecfiNsgrQAo}iha0ajd1eajd1eajd1ecfiNsfiMt~nbXYajd1ea~k.v~l'ib~a~gbcOt~tbb~u~vaF.x&-- `0Eb%bbbbGjd1e$w.i#1 @`0bvb$V$o~Nha1cc",[".0","part"]]
abbrev w6:Stmt:=top 45
theorem Eb(MK:lM Z)(D:De Z.K "many_only" w6):mM Z:=okc Bz D CS bd2 #[";fitCbzBaF.x&--1 `0Eb%bbbbG0$w.i#1 @`0bvb$WAo'oha1a2c$1c",[".0","mask","sign"]]
abbrev rR:Stmt:=top 50
theorem zQ{c:Uk}(MK:lM Z)(MC:i7 Z c)(D:De Z.K "only_strikes" rR):rz Z c:=okc Bz D yS bd5 #[";fiMxudtCbzBa4ceklMx~idjd4eo~Lha0a2c`0Oo'ohajd1jd4ea3c",(by with_unfolding_all rfl)]
abbrev qd:Stmt:=top 51
theorem xZ{c:Uk}(M0:pS Z)(MT:nZ Z)(Mv:gQ Z)(MC:i7 Z c)(MP:oh Z c)(D:De Z.K "place_strikes" qd):pW Z c:=okc Bz D xz bd6 #[";grKIpLdtCbzBaR~Vh!1cjd0eklUpLdtCbzBa5ceklfiNsgrKIpudjd5e4klUQAo'Fha0ajd5ecfiNsfixudo'phao~Mha2ao~Lha1a3ccajd5ecekl"]
abbrev rS:Stmt:=top 56
theorem zR{c:Uk}(OB:zo Z c)(OU:DA Z c)(NA:pT Z)(Ob:vh Z)(D:De Z.K "step_strikes" rS):rA Z c:=okc Bz D yW bd5 #[";grpLd4ycklfiNsgrAt'Gbb'H'IaF.x&--13 `0Eb%bbbbGo}jha0a2c$w.i#1 @`0bvb$V$o}kha3ajd21ccfiNsfit'Gbb'H'IaF.x&--13 `0Eb%bbbbGo}lha0a2c$w.i#1 @`0bvb$V$o}mha3ajd21cc",[".0","other","masks","sign"]]
abbrev pf:Stmt:=top 70
theorem wq(Nw:vf Z)(D:De Z.K "rest_of_square" pf):o7 Z:=okc Bz D wa bd3 #[";g[+bGo{gha0cw.i#3 nbvbfrK~bpudjd3e1kl~hp~id23`0fiF.x&--2 `1Eb%bbbbG3$w.i#1 @`1bvb$WpLd12kl$1sfiyc",(by with_unfolding_all rfl),[".0","other","cell"]]
abbrev jH:Stmt:=top 72
theorem pp(MK:lM Z)(MZ:pR Z)(D:De Z.K "is_another_with_only" jH):jG Z:=okc Bz D pk bd5 #[";fiMo'Eha0a3cMxLd32klOo'ohajd13a4c"]
abbrev mX:Stmt:=top 84
theorem tZ{c:Uk}{d:Ul}(M9:qH Z)(MZ:pR Z)(M0:pS Z)(MR:og Z c d)(D:De Z.K "strikes_on_floor" mX):fS Z c d:=okc Bz D rg bd2 #[";gq#2 nR~Zh!0fiMo']ha1cMo'Eha2ajd1ecOo'Fha2ajd1ec"]
abbrev mY:Stmt:=mtop 100 1
theorem lV{c:Uk}(M7:vg Z)(MI:FldK Z.K c "floor"){f:Addr}(D:Me Z.K "is_joined" "Joined.is_joined" mY f):Mo Z 4 f ["self","cells"] (lP Z.K c):=okm D tU bd2 #[";fi~Uxud1ycklOxudo'Jha-0~[a1ajd1ec1kl"]
abbrev ph:Stmt:=mtop 101 0
theorem wr{c:Uk}(Op:wF Z)(Nw:vf Z)(MI:FldK Z.K c "floor")(M2:kh Z c){f:Addr}(D:Me Z.K "holds" "NoSquare.holds" ph f):Mo Z 4 f ["self","filling"] (nG Z.K c):=okm D wg bd2 #[";g~J.i#2 nb~Db~j'hh!0a1cfi~Pt'Gbb'H'IaF.x&--2 `0Eb%bbbbGo{gha-0~[c$w.i#1 @`0bvb$V$o}nha1a2cc",[".0","square","cells"]]
abbrev zS:Stmt:=top 114
theorem EN(Mw:gA Z)(Oc:vi Z)(NP:GTup Z.K Z.mg "OF_ALL_CELLS" iy)(D:De Z.K "cells_of" zS):zr Z:=okc Bz D Eo bd3 #[";gr{f}o1bfio}pha0a2csgrpLd2ycklf~esfi'/bbb~a~cao~Tha0cc"]
abbrev qe:Stmt:=top 119
theorem x9(OC:zq Z)(D:De Z.K "checked_floor" qe):pX Z:=okc Bz D xw bd1 #[";grKIQAt~nbXYa0a~k.v~l'vb~Q~RbcUpLdtCbzBa0ceklf~esfio}qhajd0eajd0eajd0ec"]
abbrev w9:Stmt:=top 132
theorem Ec(o:u8 Z)(q:pV Z)(m:uZ Z)(D:De Z.K "_law_rule" w9):wL Z:=okc (N:=["_law_number","_law_floor_here","_law_filling","_law_many_here","_law_word","_law_sign","_law_cells","_law_cell","_law_end","_law_count","_law_some"]) Bz D Ap bd3 λk g h=>by
 refine af ?_ ?_
 . exact(kset 3 h (aq aA rfl Bz.len_ aI (aa (pv 2) ad)))
 . refine af ?_ ?_
   . refine gS (i:=4) ?n ?a ?b ?e ?c ?d
     case n=>exact h
     case a=>exact rfl
     case b=>exact Or.inl rfl
     case d=>exact .inl rfl
     case c=>rfl
     case e=>
      refine yj ?x ?l ?j ?p
      case x=>exact(IK g)
      case p=>exact(λ_ _=>rfl)
      case j=>exact(am aJ (pv 0) ae)
      case l=>
       refine aC ?_;refine i5 av ?_;refine i5 av ?_;refine i5 av ?_;refine i5 av ?_;refine i5 av ?_;refine i5 av ?_;refine i5 av ?_;refine i5 av ?_;exact ad
   . refine af ?_ ?_
     . exact(gS (i:=5) h rfl (Or.inr rfl) (am ay ae (am aJ (am bi (pv 0) ae) (kix g (pv 1) ae))))
     . refine af ?_ ?_
       . exact(kset 6 h (kcal m k (aa (am aJ (am bi (pv 0) ae) ae) (aa (pv 3) (aa (am ay ae (am aJ (am bi (pv 0) ae) (aq (pq rfl) rfl Bz.min_ yq (aa (pv 3) (aa ae ad))))) ad)))))
       . refine af ?_ ?_
         . exact(au (Rx (dI (ak cB (am aJ (pv 0) ae) ae (aj _)) (dw (aG (kcal q k (aa (pv 1) (aa (pv 2) (aa (pv 4) (aa (pv 5) ad))))))))) (ag (ah (bJ (aa (pv 4) (aa (qi rfl rfl rfl Bz.list_ Bz.range_ (aa (pv 3) ad)) (aa (pv 5) (aa (am ay (am ay (pv 4) av) (aT gB rfl Bz.str_ kD (aa (pv 5) ad))) ad))))))) ao)
         . refine af ?_ ?_
           . exact(kset 8 h (dh R9 SJ SK uv av (aa (aH (ix:=[none,none]) [".0","_law_cell"] (aE rfl (by decide+kernel) rfl rfl rfl) rfl (aF (pv 6)) (λcl s H f=>(ar (i:=1) (show([".0","_law_cell"]:List Str).Nodup by decide+kernel) rfl (Or.inl rfl))) (λcl s H f=>aS) (λcl s H f=>(aT gB rfl Bz.str_ kD (aa (pv 1) ad)))) ad)))
           . refine af ?_ ?_
             . exact(au (ak (aw g) (pv 4) av (aj _)) (ag (ah (bJ (aa (pv 4) (aa (pv 6) (aa ae (aa (am ay (am ay (am ay av (aT gB rfl Bz.str_ kD (aa (aq (mT rfl) rfl Bz.sum_ um (aa (aH (ix:=[none,none,some 2]) [".0","_law_cell","_law_filling"] (aE rfl (by decide+kernel) rfl rfl rfl) rfl (aF (pv 6)) (λcl s H f=>(ar (i:=1) (show([".0","_law_cell","_law_filling"]:List Str).Nodup by decide+kernel) rfl (Or.inl rfl))) (λcl s H f=>aS) (λcl s H f=>(kix g (pv 2) (pv 1)))) ad)) ad))) av) (pv 8)) ad))))))) ao)
             . refine af ?_ ?_
               . exact(au (ak (aw g) (pv 4) av (aj _)) (ag (ah (bJ (aa (pv 4) (aa (pv 6) (aa ae (aa (am ay (am ay (am ay av (aT gB rfl Bz.str_ kD (aa (aq aA rfl Bz.len_ aI (aa (kcal o k (aa (pv 2) (aa (pv 6) ad))) ad)) ad))) av) (pv 8)) ad))))))) ao)
               . refine af ?_ ?_
                 . exact(au (ak (aw g) (pv 4) av (aj _)) (af (kset 9 h (aq aA rfl Bz.len_ aI (aa (aH (ix:=[none,none,some 2,some 5]) [".0","_law_cell","_law_filling","_law_sign"] (aE rfl (by decide+kernel) rfl rfl rfl) rfl (aF (pv 6)) (λcl s H f=>(ar (i:=1) (show([".0","_law_cell","_law_filling","_law_sign"]:List Str).Nodup by decide+kernel) rfl (Or.inl rfl))) (λcl s H f=>(bC (ak (aw g) (kix g (pv 2) (pv 1)) (pv 3) (aj _)))) (λcl s H f=>(pv 1))) ad))) (ag (ah (bJ (aa (pv 4) (aa (pv 6) (aa (pv 5) (aa (am ay (am ay (am ay (am ay (am ay av (aT gB rfl Bz.str_ kD (aa (pv 9) ad))) av) (aT gB rfl Bz.str_ kD (aa (pv 5) ad))) av) (pv 8)) ad)))))))) ao)
                 . refine af ?_ ?_
                   . exact(au (ak (aw g) (pv 4) av (aj _)) (af (kset 6 h (kcal o k (aa (pv 2) (aa (pv 6) ad)))) (ag (ah (bJ (aa (pv 4) (aa (pv 6) (aa ae (aa (am ay av (dh R9 SJ SK uv av (aa (aH (ix:=[none,none]) [".0","_law_cell"] (aE rfl (by decide+kernel) rfl rfl rfl) rfl (aF (pv 6)) (λcl s H f=>(ar (i:=1) (show([".0","_law_cell"]:List Str).Nodup by decide+kernel) rfl (Or.inl rfl))) (λcl s H f=>aS) (λcl s H f=>(aT gB rfl Bz.str_ kD (aa (pv 1) ad)))) ad))) ad)))))))) ao)
                   . refine af ?_ ?_
                     . exact(kset 10 h (aC ad))
                     . refine af ?_ ?_
                       . exact(cy QF rfl (aF (kcal m k (aa (am aJ (am bi (pv 0) ae) ae) (aa (pv 3) (aa (pv 3) ad))))) (ar (i:=7) h rfl (Or.inl rfl)) (ag (au (ak (cQ g) (kix g (pv 2) (pv 7)) (aH (ix:=[none,none,some 2]) [".0","_law_one","_law_filling"] (aE rfl (by decide+kernel) rfl rfl rfl) rfl (aF (pv 10)) (λcl s H f=>(ar (i:=1) (show([".0","_law_one","_law_filling"]:List Str).Nodup by decide+kernel) rfl (Or.inl rfl))) (λcl s H f=>aS) (λcl s H f=>(kix g (pv 2) (pv 1)))) (by with_unfolding_all rfl)) (ag (dR (dh Qu QQ QR di (pv 10) (aa (pv 7) ad)))) ao)))
                       . refine ag ?_
                         . refine ah ?_
                           . refine bJ ?_
                             . refine aa ?_ ?_
                               . exact av
                               . refine aa ?_ ?_
                                 . exact(pv 10)
                                 . refine aa ?_ ?_
                                   . exact ae
                                   . refine aa ?_ ?_
                                     . exact(am ay av (dh R9 SJ SK uv av (aa (aH (ix:=[none,none]) [".0","_law_cell"] (aE rfl (by decide+kernel) rfl rfl rfl) rfl (aF (pv 10)) (λcl s H f=>(ar (i:=1) (show([".0","_law_cell"]:List Str).Nodup by decide+kernel) rfl (Or.inl rfl))) (λcl s H f=>aS) (λcl s H f=>(aT gB rfl Bz.str_ kD (aa (pv 1) ad)))) ad)))
                                     . exact ad
abbrev nK:Stmt:=top 59
theorem vD{c:Uk}{d:Ul}(NQ:rh Z)(NR:rz Z c)(NS:rn Z c)(NF:pW Z c)(NT:rA Z c)(Pa:Fv Z c d)(MR:og Z c d)(MX:rD Z c d)(D:De Z.K "strikes_by_line" nK):nI Z c d:=okc Bz D tX bd3 #[";gq#3 njd2egq#4 njd2egq#5 njd2egq#6 njd2egrpud3Hklfio}rhaR}sh!0a4a5a6csgq#7 njdR'kh!0jd2egrpud3Hklfio}tha7a1a4a5a6csgrpud3Hklfio}uhaR~Zh!0a7a1a4a5a6csgrpud3Hklfio}vha7a1a4a5a6csfio}wha7a1a4a5a6c"]
abbrev qf:Stmt:=top 63
theorem ya{c:Uk}(MT:nZ Z)(MN:mM Z)(Mv:gQ Z)(MC:i7 Z c)(Nf:xR Z c)(M4:vm Z c)(D:De Z.K "count_strikes" qf):pY Z c:=okc Bz D xA bd5 #[";grpLd4ycklfiNsgq#5 no~Mha1ao~Lha0a2ccgrpud3R~*h!0klfix'lo'qha5a3cR'nh!0klsfix*o'pha5aR~*h!0cR'nh!0kl"]
abbrev pi:Stmt:=top 71
theorem wt{c:Uk}(MN:mM Z)(Mv:gQ Z)(No:o7 Z)(M4:vm Z c)(D:De Z.K "square_strikes" pi):o8 Z c:=okc Bz D wc bd6 #[";grKIpLd4R~*h!1klUpLdtCbzBa5ceklfiNsgq#6 no}xha0ajd5ea3cfiMxLd6ycklOxudo'qhao~Mha2a6ca4ctCbzBa6ckl"]
abbrev qg:Stmt:=top 73
theorem yc{c:Uk}(M3:jG Z)(MC:i7 Z c)(M7:vg Z)(MD:kf Z)(M4:vm Z c)(D:De Z.K "reach_strikes" qg):pZ Z c:=okc Bz D xD bd6 #[";g~J.i#6 nb~DbR~*h!1grQAt~tbb~u~vaF.x&--3062 `0Eb%bbbbG5$w.i#1 @`0bvb$V$o}yha3a5a2a1a4ccfiNsg{e.k#7 nbvbb.x&--62 `1Eb%bbbbGo~Lha1a3c$w.i#1 @`1bvb$WAo~Ohajd31a2c$1grpud46klfiMxudtCbzBa5ceklOx~mdjd5eo'Jha0amD7ya3ca3c`2sgrKIpLdtCbzBa5ceklUpudjd5ejd5eklfiNsfix~mdjd5eo'Jha0a7ajd5ec`2",[".0","other","cell","floor","mark","masks"],[".0","other","mark","masks"],(by with_unfolding_all rfl)]
abbrev rT:Stmt:=top 75
theorem zT{c:Uk}(OV:DB Z)(MQ:o5 Z)(MK:lM Z)(MT:nZ Z)(MN:mM Z)(Mv:gQ Z)(M4:vm Z c)(D:De Z.K "turn_strikes" rT):rB Z c:=okc Bz D y4 bd6 #[";gq#6 nR~*h!1grpud5ycklgq#7 no~Mha2ao~Yha0a3ccfiMxud46klO~Ux*o'pha7a6ceklOx/o'qha7a6ceklsgrKIpLdtCbzBa5ceklIp~mdjd5eo~Yha0a3c`0UQAo'ohajd2jd5ea6cfiNsgq#7 no~Mha2ao}zha0ajd5ea3ccgrpud46klfix'lo'qha7a6ceklsfix*o'pha7a6cekl",(by with_unfolding_all rfl)]
abbrev kz:Stmt:=top 85
theorem qL{c:Uk}{d:Ul}(Mx:gP Z)(Mz:fS Z c d)(D:De Z.K "is_formed_supposing" kz):ku Z c d:=okc Bz D o4 bd2 #[";grKIQAo~Nhajd1ecIpLdjd1eeklUQAo'Kha0a1cfiNsfiMt~nbXYajd1ea~k.v~l'ib~a~gbcOxLdjd1eyckl"]
abbrev pj:Stmt:=top 87
theorem wu{c:Uk}{d:Ul}(MD:kf Z)(Mz:fS Z c d)(D:De Z.K "is_passed_over" pj):o9 Z c d:=okc Bz D tY bd3 #[";fiMo'Kha0a2cO~Po~Ohajd1jd2eajd2ec"]
abbrev kA:Stmt:=top 90
theorem qM{c:Uk}{d:Ul}(MD:kf Z)(Mz:fS Z c d)(D:De Z.K "strikes_what_stands" kA):kx Z c d:=okc Bz D oZ bd3 #[";fiMo'Kha0a2cOo~Ohajd1jd2eajd2ec"]
abbrev rV:Stmt:=mtop 100 0
theorem zV{c:Uk}(Oq:mO Z c)(M2:kh Z c){f:Addr}(D:Me Z.K "holds" "Joined.holds" rV f):Mo Z 5 f ["self","filling"] (pI Z.K c):=okm D yZ bd2 #[";fi~j{hh!0a~j'hh!0a1cc"]
abbrev vE:Stmt:=mtop 102 0
theorem BU{c:Uk}(OW:pb Z c)(Oq:mO Z c)(M2:kh Z c){f:Addr}(D:Me Z.K "holds" "Ring.holds" vE f):Mo Z 5 f ["self","filling"] (tG Z.K c):=okm D BA bd2 #[";g~J.i#2 nb~Db~j'hh!0a1cfiM~j{hh!0a2cOt~tbb~u~vaF.x&--20 `0Eb%bbbbG2$w.i#1 @`0bvb$V$~j}Ah!3a2a1cc",[".0","cell","cells","self"]]
abbrev xa:Stmt:=top 116
theorem Ed{c:Uk}(OD:zr Z)(Nj:rp Z)(OK:A8 Z c){t_MOST_NUMBER:Tok}(N2:Z.mg "MOST_NUMBER"=some (.int 99 t_MOST_NUMBER))(N3:GTup Z.K Z.mg "WITH_NUMBER" jb)(Os:GTup Z.K Z.mg "WITH_SIGN" iH)(D:De Z.K "read_rule" xa):wM Z c:=okc Bz D CN bd2 #[";grQAt~nbXYa1a~k.v~l}Bb}C}Dbcf~esgq#2 n]}E}F}G}H1aHcgq#3 njd2egq#4 n~H~I2~Be~Xgq#5 negq#6 negr'r}I3bgq#5 no{iha4aea`0cfq#4 n~H~I4~Be~Xsgr'r}J3bgq#6 no{iha4aeajd0ecfq#4 n~H~I4~Be~Xsfio}Kha0a2ao}Lha0a3a4ca5a6c",(bB rfl N2 ⟨t_MOST_NUMBER,rfl⟩)]
abbrev rW:Stmt:=top 67
theorem zW{c:Uk}(MM:mW Z)(Mv:gQ Z)(MC:i7 Z c)(Mu:gR Z)(Pm:Ip Z)(Np:o6 Z)(M8:qG Z){t_MOST_WAYS:Tok}(Ot:Z.mg "MOST_WAYS"=some (.int 32 t_MOST_WAYS))(Pb:Fw Z c)(D:De Z.K "ways_strikes" rW):rC Z c:=okc Bz D y2 bd5 #[";gq#5 no~Lha0a2cgq#6 no~Mha1a5cgrKIpLd4ycklUp/o}Mha6c`0klfiNsgrAo'mha6cfiNsgq#7 nyao'[ham}NyaectCbzBa1ca2a3ccg[+bG5w.i#8 nbvbfq#7 no}Oha7a8ao~Khajd18ccg[+bG7w.i#9 nbvbfrA~j}Ph!0a9cfiNsfiN",(bB rfl Ot ⟨t_MOST_WAYS,rfl⟩)]
abbrev lW:Stmt:=top 76
theorem tu{c:Uk}{d:Ul}(NG:pZ Z c)(Nq:o8 Z c)(NU:rB Z c)(MR:og Z c d)(MX:rD Z c d)(D:De Z.K "strikes_by_region" lW):lS Z c d:=okc Bz D qx bd3 #[";gq#3 nR~Zh!0gq#4 njdR'kh!0jd2egrpudjd2eHklfio}Qha3a4a1ajd2eajd2eajd2ecsgrpudjd2eHklfio}Rha3a4a1ajd2eajd2eajd2ecsfio}Sha3a4a1ajd2eajd2eajd2ec"]
abbrev vF:Stmt:=top 120
theorem BW{c:Uk}(Ou:wM Z c){t_MOST_RULES:Tok}(Od:Z.mg "MOST_RULES"=some (.int 12 t_MOST_RULES))(D:De Z.K "read_rules" vF):vj Z c:=okc Bz D Bu bd2 #[";grp/tCbzBa1c`0klf~esfiF.x&--0 `1Eb%bbbbG1$w.i#1 @`1bvb$V$o}Tha2a1c",(bB rfl Od ⟨t_MOST_RULES,rfl⟩),[".0","line","floor"]]
abbrev lX:Stmt:=top 68
theorem tw{c:Uk}{d:Ul}(NH:pY Z c)(N4:tI Z c)(NV:rC Z c)(MX:rD Z c d)(D:De Z.K "strikes_by_number" lX):lT Z c d:=okc Bz D qy bd3 #[";gq#3 njdR'kh!0jd2egrpudjd2eHklfio}Uha3a1ajd2eajd2eajd2ecsgrpudjd2eHklfio}Vha3a1ajd2eajd2eajd2ecsfio}Wha3a1ajd2eajd2eajd2ec"]
abbrev nM:Stmt:=mtop 123 0
theorem vG{c:Uk}{d:Ul}(NI:pU Z)(NJ:pX Z)(Oe:vj Z c)(MY:FldK Z.K d "floor")(Ni:FldK Z.K d "given")(Nt:FldK Z.K d "laws"){f:Addr}(D:Me Z.K "__init__" "Puzzle.__init__" nM f):Mo Z 7 f ["self","floor","lines","clues"] (du Z.K c d):=okm D uz bd4 #[";g~C0o}Xha1c~^g~C0o}Yha-0~^a2c'Yf~C0o}Zha-0~^a3c'X"]
abbrev Bk:Stmt:=top 78
theorem GI{c:Uk}{d:Ul}(Nk:nI Z c d)(Nb:lT Z c d)(Nd:lS Z c d)(Of:GTup Z.K Z.mg "LINE_KINDS" jK)(NW:GTup Z.K Z.mg "NUMBER_KINDS" iA)(D:De Z.K "strikes" Bk):A9 Z c d:=okc Bz D Ey bd3 #[";gr'r}*jd2ebfio}+ha0a1a2csgr'r}-jd2ebfio}/ha0a1a2csfio}:ha0a1a2c"]
abbrev Bl:Stmt:=top 79
theorem GJ{c:Uk}{d:Ul}(Ov:wK Z c d)(OL:A9 Z c d)(D:De Z.K "allowed" Bl):vk Z c d:=okc Bz D Ez bd3 #[";fiMo};ha0a2cOo}?ha0a1a2c"]
abbrev zX:Stmt:=top 88
theorem EO{n:Nat}{c:Uk}{d:Ul}(Ny:vk Z c d)(MM:mW Z)(M1:n6 Z c d n)(M5:ku Z c d)(Nr:o9 Z c d)(NX:rj Z)(NY:xQ Z)(OE:zp Z)(D:De Z.K "fault_in" zX):Ca9 Z (1*n+10) "fault_in" ["puzzle","masks","thought"] (cR Z.K c d (n+1)):=okc Bz D BE bd3 (len:=BD) #[";grQAS}[ha2cfi~FAS{jha0a1a2c:ycsgrQAS}]ha0a2cfiycsgq#3 nS}^ha1ajd2eajd2ecg[+b~;b~?ajd2ec~rbTw.i#4 nbvbTw.i#5 nbvb~sgrAS'mha3cfi:sfrQAS_aha0a3a5cgq#6 nS{kha0a3a5cgrp'L6:klfimDya4c6sfq#3 nS_bha3ajd5eajd5ecsfi~FAS'mha3c:yc"]
abbrev vH:Stmt:=top 140
theorem BX{n:Nat}{c:Uk}{d:Ul}(ML:jL Z)(MG:i8 Z c d n)(MW:nB Z)(MH:jM Z)(Ny:vk Z c d)(MR:og Z c d)(D:De Z.K "_law_fault" vH):Ca9 Z (1*n+10) "_law_fault" ["_law_puzzle","_law_masks","_law_thought_here"] (bx Z.K c d (n+1)):=okc Bz D zk bd3 (len:=zi) #[";grpLdjd2eHklgrAS{jha0a1a2cfi:sfiycsgq#3 njdR~Zh`00egrKIpLdjd2eeklIQAS'Dha1a2cIp/jd2e3klUpudjd2eycklfiycsgq#4 n~f~wb~a~ga1cg~Gm'cemPjd2ee'A4jd2e'Bdg[+b~qb~catCbzBajd2eccw.i#5 nbvbgq#6 njdjd2e5gq#7 n~U~PS'Dha4a6cOx/jd6e3klfrK~bp~mde4`1~hKIA7UAS'sha4a6cgq#8 nS'Mha0a4a6cgrp'L8:klfimDya5c8sfq#4 nS'Nha4a6csgrp~ide4`1fi:sfiyc",#[0],(by with_unfolding_all rfl)]
abbrev Ee:Stmt:=top 89
theorem IB{c:Uk}{d:Ul}(M1:n6 Z c d 3)(D:De Z.K "let_by" Ee):DC Z c d:=okc Bz D EC bd3 #[";fix~Wo{kha0a1a2c:kl"]
abbrev nF:Stmt:=top 91
def AJ{c:Uk}{d:Ul}(o:mW Z)(n:n6 Z c d 3)(p:kx Z c d)(t:xQ Z){a:EA}(v:ErrMx Z.mg a)(e:xM Z.K a "BadThought" a.BadThought (uR a))(b:XCal Z.P Z.w Z.K Z.mg Z.base 1 "BadThought" a.BadThought ["self","at"] "at")(D:De Z.K "follow_from" nF):tJ Z c d:=by
 obtain⟨f,q,r,F⟩:=D.ex;have l:ki ["puzzle","masks","book","now","place","thought","fault"] ["puzzle","masks","book"] (aZ nF):=by ac_rfl
 refine⟨f,q,F.ok1 l (λvs H Q E h=>xN h) (λu A k s H vs Q E g h=>?_),Bz.ns r,F.kp,F.binds bd3⟩;have m:=g.units;have j:=l.nd;refine⟨gO Z.K c d a E,?_,xO e h⟩
 exact(af (kset 3 j (aT bV rfl Bz.list_ ck (aa (pv 1) ad)))
   (af (cy PassesOwn.leaving rfl (qV rfl Bz.enumerate_ (aa (pv 2) ad)) (jA rfl (aY (ar (i:=4) j rfl (Or.inl rfl)) (aY (ar (i:=5) j rfl (Or.inl rfl)) gX)))
   (af (au (Rx (bf (aG (kcal o g (aa (pv 3) ad))) (bA (bn (aG (kcal p g (aa (pv 0) (aa (pv 3) (aa (pv 5) ad))))))))) (ag (A5 b g #[1] rfl (aa (aC (aa (pv 4) ad)) ad))) ao)
   (af (kset 6 j (kcal n g (aa (pv 0) (aa (pv 3) (aa (pv 5) ad)))))
   (af (au (ak vI (pv 6) cw (aj _)) (ag (A5 b g #[1] rfl (aa (am ay (aC (aa (pv 4) ad)) (pv 6)) ad))) ao)
   (ag (kset 3 j (kcal t g (aa (pv 3) (aa (kix m (pv 5) ae) (aa (kix m (pv 5) ae) ad))))))))))
   (ag (ah (pv 3)))))
abbrev zY:Stmt:=top 144
theorem EQ{c:Uk}{d:Ul}(ML:jL Z)(MG:i8 Z c d 3)(MH:jM Z)(D:De Z.K "_law_due" zY):zt Z c d:=okc Bz D BF bd3 #[";gq#3 n~f~wb~a~ga1cg[+b~qb~catCbzBa2ccw.i#4 nbvbgrKIp~ide3`0UQAo'sha3ajd24cfi?aHaya4ccsgq#5 no'Mha0a3ajd24cgrp'L5:klfi?aHamDya4c5csfq#3 no'Nha3ajd24cfi?aHa3c",(by with_unfolding_all rfl)]
abbrev qh:Stmt:=top 146
theorem yd{c:Uk}{d:Ul}(Og:vb Z)(N5:tJ Z c d){a:EA}(EM:ErrMx Z.mg a)(R_BadThought:xM Z.K a "BadThought" a.BadThought (uR a))(D:De Z.K "_law_followed" qh):p5 Z c d:=okc Bz D (λh=>uS R_BadThought h) bd3 #[";gq#3 n:gq#4 nycg`0grp~W3:klfi?aHa4csgrKIQAt~pbXYa3a~Ab_cbcIAo_dha3cUQAt~nbXYa{l3a~k.v~l'ib~a~gbcfi:sfi?aHa{l3c",(Ku (i:=5) (j:=4) (λ_ _ z=>z) N5 hr #[1] rfl (aa (pv 0) (aa (pv 1) (aa (pv 2) ad))) nd rfl rfl rfl rfl rfl EM.ClueError rfl rfl (λ_=>(ag (kset 3 nd (pv 5)))))]
abbrev xb:Stmt:=top 142
theorem Ef{n:Nat}{c:Uk}{d:Ul}(ML:jL Z)(Ow:wH Z)(My:mE Z)(MG:i8 Z c d (n+1))(Nm:qJ Z c d n)(NK:pQ Z)(MH:jM Z)(NZ:rq Z)(D:De Z.K "_law_made" xb):Ca9 Z (1*n+13) "_law_made" ["_law_script","_law_at","_law_size","_law_depth","_law_ground","_law_masks"] (df Z.K c d (n+1)):=okc Bz D AA bd6 (len:=Az) #[";g~G4~rbTw.i#6 nbvbTw.i#7 nbvbTw.i#8 nbvb~sgq#9 n~f~wb~a~ga5cgq#10 nycg[+b~qb~ca2cw.i#11 nbvbgq#12 nS_eha0amD1|bcgq#13 nS_fhamZ|cea7a8a9cgrK~bpudmJ|ceekl~bp/3ekl~hpLdjd9jd|deeklgq#14 nS_ghajd9jd|decgq#15 njd|emJmZ|cetCbzBa|ecgq#16 n~f~wb~a~ga9cg~Gm'cemP|fe'A|gjd|de'Bdgq#17 nmJmZ|cem;e3gq#18 nS_hha0amD1m;emD|bea|hamP3ea4a|gcfq#13 n?aHaeajd|dea|fa|icsgrK~bp/mJ|ceekl~hpudmJmZ|ceeeklfq#13 nS_iha|damZ|cecsgq#19 nS'Mha6a9a|dcfrKIpudmJ|ceeklIpudmJ|ceeklUK~bp~mde9`0~bp~W|j:kl~hAS'sha9a|dcg~o]^~x~y~z|aa|dcfrK~bAS'sha9a|dc~hp~W|j:klfq#9 nS'Nha9a|dcssfi|a",(by with_unfolding_all rfl)]
abbrev zZ:Stmt:=top 147
def LU{c:Uk}{d:Ul}(h:mE Z)(n:zt Z c d)(p:i8 Z c d 3)(q:uY Z)(o:p5 Z c d)(t:qJ Z c d 3)(u:qI Z 3)(m:wL Z)(l:DC Z c d)(r:nJ Z "Puzzle" (d.A .Puzzle) c d){f:Addr}{j:FuncData}(F:Fun Z.K "law" "law" zZ f j):FnOk Z.P Z.w Z.K Z.mg Z.base CX0 16 f j ["_law_script"] (Ij Z.K c d):=okf F (by ac_rfl) LT (λa g e=>(af (gS (i:=1) e rfl (Or.inr rfl) (kcal q a (aa (kcal h a (aa (pv 0) (aa ae ad))) ad)))
   (af (kset 2 e (am bQ (kix g (pv 1) ae) (kix g (pv 1) ae)))
   (af (gS (i:=3) e rfl (Or.inr rfl) (aH (ix:=[none,none,some 1,some 0]) [".0","_law_k","_law_floor_here","_law_script"] (aE rfl (by decide+kernel) rfl rfl rfl) rfl (cP rfl Bz.range_ (aa (pv 2) ad)) (λcl s H b=>(ar (i:=1) (show([".0","_law_k","_law_floor_here","_law_script"]:List Str).Nodup by decide+kernel) rfl (Or.inl rfl))) (λcl s H b=>aS) (λcl s H b=>(am ay ae (am aJ (am bi (kcal h a (aa (pv 3) (aa (am ay ae (pv 1)) ad))) ae) (kix g (pv 2) ae))))))
   (af (qR (k:=4) e rfl (Or.inl rfl) rfl (ix:=[none,none,some 3,some 1,some 0]) [".0","_law_k","_law_filling","_law_floor_here","_law_script"] (aE rfl (by decide+kernel) rfl rfl rfl) rfl (cP rfl Bz.range_ (aa (am ay ae (am aJ (kcal h a (aa (pv 0) (aa ae ad))) ae)) ad)) (λcl s H b=>(ar (i:=1) (show([".0","_law_k","_law_filling","_law_floor_here","_law_script"]:List Str).Nodup by decide+kernel) rfl (Or.inl rfl))) (λcl s H b=>aS) (λcl s H b=>(kcal m a (aa (kcal h a (aa (pv 4) (aa (am ay ae (pv 1)) ad))) (aa (pv 3) (aa (pv 2) ad))))))
   (af (qR (k:=5) e rfl (Or.inl rfl) rfl (ix:=[none,none,some 3,some 0]) [".0","_law_k","_law_filling","_law_script"] (aE rfl (by decide+kernel) rfl rfl rfl) rfl (cP rfl Bz.range_ (aa (pv 2) ad)) (λcl s H b=>(ar (i:=1) (show([".0","_law_k","_law_filling","_law_script"]:List Str).Nodup by decide+kernel) rfl (Or.inl rfl))) (λcl s H b=>aS) (λcl s H b=>(am bQ (kix g (pv 2) (pv 1)) (am aJ (am bi (kcal h a (aa (pv 3) (aa (am ay ae (pv 1)) ad))) ae) ae))))
   (af (kset 6 e (nR r a #[1] rfl (aa (pv 1) (aa (aH (ix:=[none,none]) [".0","_law_rule_here"] (aE rfl (by decide+kernel) rfl rfl rfl) rfl (aF (pv 4)) (λcl s H b=>(ar (i:=1) (show([".0","_law_rule_here"]:List Str).Nodup by decide+kernel) rfl (Or.inl rfl))) (λcl s H b=>aS) (λcl s H b=>(kix g (pv 1) ae))) (aa (pv 5) ad)))))
   (af (qR (k:=7) e rfl (Or.inl rfl) rfl (ix:=[none,none,some 1]) [".0","_law_cell","_law_floor_here"] (aE rfl (by decide+kernel) rfl rfl rfl) rfl (aF (pv 3)) (λcl s H b=>(ar (i:=1) (show([".0","_law_cell","_law_floor_here"]:List Str).Nodup by decide+kernel) rfl (Or.inl rfl))) (λcl s H b=>aS) (λcl s H b=>(am ba (am qT ae (kix g (pv 2) ae)) ae)))
   (af (au (ak (aw g) (am aJ (kcal h a (aa (pv 0) (aa ae ad))) ae) ae (aj _)) (ag (mP ae (yf (pv 7) (am aJ (am bi (kcal h a (aa (pv 0) (aa ae ad))) ae) (pv 2)) (B1 g)))) ao)
   (af (kset 8 e (kcal t a (aa (pv 0) (aa ae (aa (am ay ae (aq (pq rfl) rfl Bz.min_ yq (aa ae (aa (aq iE rfl Bz.len_ aI (aa (pv 0) ad)) ad)))) (aa ae (aa (bJ (aa (pv 6) (aa (pv 1) (aa (pv 4) ad)))) (aa (pv 7) ad))))))))
   (af (xf QF (ak cB (kcal u a (aa (pv 8) ad)) ae (aj _))
   (ag (dR (Ce Qu T6 T7 KW (pv 8)))))
   (af (kset 9 e (aT bV rfl Bz.list_ ck (aa (pv 8) ad)))
   (af (au (Rx (bf (ak (aX g) (kcal o a (aa (pv 6) (aa (pv 7) (aa (pv 9) ad)))) (kcal n a (aa (pv 6) (aa (pv 7) (aa (pv 8) ad)))) (aj _)) (bA (ak (aX g) (pv 9) (pv 8) (aj _))))) (ag (ah bw)) ao)
   (af (cy QF rfl (aF (pv 8)) (ar (i:=10) e rfl (Or.inl rfl))
   (af (kset 11 e (kcal l a (aa (pv 6) (aa (pv 7) (aa (pv 10) ad)))))
   (ag (au (Rx (bf (bn (aG (aq dq rfl Bz.isinstance_ aK (aa (pv 11) (aa (fF (v:=.ty "bool") rfl Bz.bool_ EZ rfl) ad))))) (bA (ak (aX g) (pv 11) (aB qO (kcal p a (aa (pv 6) (aa (pv 7) (aa (pv 10) ad)))) cw (aj _)) (aj _))))) (ag (ah bw)) ao))))
   (ag (ah bw)))))))))))))))) (by walk_at "l")
abbrev kB:Stmt:=mtop 11 0
def qN{a:EA}(c:ErrMx Z.mg a){f:Addr}(X:XD Z.K a.BadThought a.ClueError f)(Y:XI Z.K a.ClueError)(b:findIn Z.K (.ref a.BadThought) "at"=some none)(D:Me Z.K "__init__" "BadThought.__init__" kB f):Mo Z 1 f ["self","at"] (spXI a.BadThought "at"):=
 okm (N:=["self","at"]) D rkXI bd2 λg e d=>(af (dR (Ks X Y rfl c.ClueError (aa (pv 0) (aa av ad)))) (ag (Kt X b (pv 0) (aT bV rfl Bz.list_ ck (aa (pv 1) ad)))))
end
variable{l:PySem.W.OpenLaw}
def LV {w:World} {K:Frag} {h:Heap} {mg:Str->Option Value} {fa:Addr} (X:K.In h) (G:h.Ns mainGlobals mg) (ej:mg "law"=↑fa) {x1 x2 x3 x4 x5 x6 x7 x8 y1 aI dd cr cw bN cb ch cp cP cz ce co cn cc cC dg bt bC bq bn br:Addr} {aR ai R ac ao aG ay aD aO:Tok} {o M Y P I aj U O L b:Addr} {cE ff:Value} {dE dD:Option Addr} {cA:Array DictEntry} {nE:Nat} {sE ds:Array (Option Value)} {ND:Addr} {cO:ClassData} {au Pn:Str} {aE q:Addr} {ap:List Value} {aB:List Str} {ab:List Value} {am:Bool} {af:Option Bool} {aq:Option Addr} {as ar aA al aC:Option Value}
  (Oy:nsIn K mainGlobals "ClueError"=some ↑o) (OM:nsIn K mainGlobals "NoFloor"=some ↑M) (OZ:nsIn K mainGlobals "NoMove"=some ↑Y) (O0:nsIn K mainGlobals "NoName"=some ↑P) (OG:nsIn K mainGlobals "NoPuzzle"=some ↑I) (Pc:nsIn K mainGlobals "NoRow"=some ↑aj) (O1:nsIn K mainGlobals "NoRule"=some ↑U) (O2:nsIn K mainGlobals "NoText"=some ↑O) (ON:nsIn K mainGlobals "TooMany"=some ↑L) (Ng:nsIn K mainGlobals "BadThought"=some ↑b) (Oi:nsIn K mainGlobals "ValueError"=some none) (DE1:K.lookup o=some ⟨ff,dD,.cls cO,ds⟩) (DE2:cO.ns=ND) (DE3:K.lookup ND=some ⟨cE,dE,.dict cA nE,sE⟩) (DE4:E6 cA=true) (r1_BadThought:K.lookup b=some (excClassObj au Pn b aE ap (.ref o::VE) true aB ab am af aq as ar aA al aC "ValueError.__new__")) (f1_BadThought:findIn K (.ref b) "__getattribute__"=some (some (.builtin "BaseException.__getattribute__"))) (f2_BadThought:findIn K (.ref b) "__getattr__"=some none) (f3_BadThought:findIn K (.ref b) "__class__"=some (some (.builtin "object.__class__"))) (f4_BadThought:PySem.W.mroIn K b (.type "object")=some true) (f5_BadThought:PySem.W.mroIn K b (.type "BaseException")=some true) (i1_BadThought:findIn K (.ref b) "__init__"=some ↑q) (i2_BadThought:isFn K (.ref q)=true) (i3_BadThought:keepIn K (.ref b)=true) (i4_BadThought:findIn K (.ref b) "__setattr__"=some (some (.builtin "object.__setattr__"))) (i5_BadThought:findIn K (.ref b) "at"=some none) (j1_BadThought:PySem.W.readsIn K o (.type "type")=true) (j2_BadThought:PySem.W.specialIn K (.ref o) "__getattribute__"=some (some (.builtin "type.__getattribute__"))) (j3_BadThought:PySem.W.findCls K (.ref o) (.type "type") "__init__"=some (.val (.builtin "ValueError.__init__"))) (f6_BadThought:PySem.W.kitOne K (.ref b) (.type "ValueError")=some true) (f7_BadThought:PySem.W.exmOne K (.ref b) (.ref o)=some true) (g_BadThought_NoFloor:PySem.W.kitOne K (.ref b) (.ref M)=some false) (g_BadThought_NoMove:PySem.W.kitOne K (.ref b) (.ref Y)=some false) (g_BadThought_NoName:PySem.W.kitOne K (.ref b) (.ref P)=some false) (g_BadThought_NoPuzzle:PySem.W.kitOne K (.ref b) (.ref I)=some false) (g_BadThought_NoRow:PySem.W.kitOne K (.ref b) (.ref aj)=some false) (g_BadThought_NoRule:PySem.W.kitOne K (.ref b) (.ref U)=some false) (g_BadThought_NoText:PySem.W.kitOne K (.ref b) (.ref O)=some false) (g_BadThought_TooMany:PySem.W.kitOne K (.ref b) (.ref L)=some false) (dI_BadThought:Me K "__init__" "BadThought.__init__" kB q) (S:ClsP K "Unlike" x1 aI) (aW:ClsP K "Sum" x2 aI) (T:ClsP K "Rising" x3 aI) (aJ:ClsP K "Seen" x4 aI) (aw:ClsP K "Count" x5 aI) (C:ClsP K "Joined" x6 aI) (D:ClsP K "NoSquare" x7 aI) (J:ClsP K "Ring" x8 aI) (u:ClsP K "Puzzle" y1 br) (eK:At8 K "name" ↑dd x1 x2 x3 x4 x5 x6 x7 x8) (ei:At8 K "spots" ↑cr x1 x2 x3 x4 x5 x6 x7 x8) (fB:At8 K "number" ↑cw x1 x2 x3 x4 x5 x6 x7 x8) (dC:At8 K "sign" ↑bN x1 x2 x3 x4 x5 x6 x7 x8) (eq:At8 K "signs_at" ↑cb x1 x2 x3 x4 x5 x6 x7 x8) (bu:At8 K "marked" ↑ch x1 x2 x3 x4 x5 x6 x7 x8) (Ps:findIn K (.ref y1) "place"=some ↑cp) (Pt:findIn K (.ref y1) "clues"=some ↑cP) (Pu:findIn K (.ref y1) "rules"=some ↑cz) (Pw:findIn K (.ref x1) "holds"=some ↑ce) (PL:findIn K (.ref x2) "holds"=some ↑co) (Px:findIn K (.ref x3) "holds"=some ↑cn) (PF:findIn K (.ref x4) "holds"=some ↑cc) (PC:findIn K (.ref x5) "holds"=some ↑cC) (PH:findIn K (.ref x8) "has_two_beside"=some ↑dg) (Py:findIn K (.ref x6) "is_joined"=some ↑bt) (PJ:findIn K (.ref x8) "is_joined"=some ↑bt) (Po:findIn K (.ref x7) "holds"=some ↑bC) (Pr:findIn K (.ref x6) "holds"=some ↑bq) (PD:findIn K (.ref x8) "holds"=some ↑bn) (aS:At8 K "amount" none x1 x2 x3 x4 x5 x6 x7 x8) (aX:At8 K "cells" none x1 x2 x3 x4 x5 x6 x7 x8) (aU:At8 K "floor" none x1 x2 x3 x4 x5 x6 x7 x8) (bi:At8 K "mark" none x1 x2 x3 x4 x5 x6 x7 x8) (aT:At8 K "words" none x1 x2 x3 x4 x5 x6 x7 x8) (aV:findIn K (.ref y1) "floor"=some none) (aY:findIn K (.ref y1) "given"=some none) (bg:findIn K (.ref y1) "laws"=some none) (D0:De K "is_whole" zu) (D1:De K "many_cells" vn) (D2:De K "spot_of" Ba) (D3:De K "square_at" wN) (D4:De K "bit_of" DE) (D5:De K "stands" DF) (D6:De K "clashes" Bb) (D7:De K "masks_at" zv) (D8:De K "clue_strikes" rE) (D9:De K "are_told_in_order" lU) (ea:De K "with_sign" wO) (er:De K "has_parts" wP) (dw:De K "is_within" wQ) (fT:Me K "__init__" "Rule.__init__" p6 aI) (dT:Me K "name" "Rule.name" wR dd) (fo:Me K "spots" "Rule.spots" vo cr) (eL:Me K "number" "Rule.number" tK cw) (eN:Me K "sign" "Rule.sign" wS bN) (ev:Me K "signs_at" "Rule.signs_at" p7 cb) (bw:Me K "marked" "Rule.marked" tL ch) (eF:De K "number_in" wT) (dP:Me K "place" "Puzzle.place" rF cp) (eb:Me K "clues" "Puzzle.clues" rG cP) (eP:Me K "rules" "Puzzle.rules" rH cz) (fP:De K "_law_cell_at" rJ) (ez:De K "_law_floor" vp) (en:De K "_law_near" wU) (dx:De K "_law_drawn" vq) (eI:De K "_law_above" vt) (cq:De K "_law_signs" vv) (fG:De K "_law_kinds" vw) (dI:De K "_law_inside" tM) (fF:De K "_law_behind" tN) (dK:De K "_law_bent" wV) (dL:De K "_law_other" vx) (fV:De K "is_from_one_to" pc) (eZ:De K "beside" DP) (dF:De K "is_corner" wW) (eA:De K "without" Bc) (fr:De K "signs_in" zD) (eY:De K "is_cell" Be) (dp:De K "goes_by" Bf) (fR:De K "others" DR) (eW:De K "many_may" zE) (ed:De K "ahead_of" zF) (eS:De K "behind" DS) (eu:De K "with_each_sign" pe) (eB:De K "is_supposing" rK) (eV:De K "supposed" zH) (dJ:Me K "holds" "Unlike.holds" rL ce) (fx:Me K "holds" "Sum.holds" wX co) (fE:Me K "holds" "Rising.holds" rM cn) (fb:Me K "holds" "Seen.holds" vy cc) (eo:Me K "holds" "Count.holds" tO cC) (dX:De K "number_within" p8) (fl:De K "is_filling" vz) (eG:De K "_law_joined" tP) (fp:De K "_law_more" wY) (ef:De K "_law_stands" tQ) (fn:De K "floor_of" zK) (dh:De K "squares" Bg) (eT:De K "reached" Bh) (dH:De K "has_only" zL) (fy:De K "struck" DW) (fN:De K "ways" Iz) (dl:De K "is_sign" Bi) (du:De K "has_its_rule" rN) (ek:De K "is_no_greater" p9) (dB:De K "is_no_less" vA) (fI:De K "pair_strikes" rO) (eD:De K "sum_strikes" tR) (fs:De K "around" DY) (fS:Me K "has_two_beside" "Ring.has_two_beside" ky dg) (dU:De K "first_within" rP) (dn:De K "told_cells" vC) (eg:De K "rule_by" Bj) (eC:De K "checked_clues" qb) (et:De K "_law_by_floor" qc) (fL:De K "_law_thought" rQ) (cd:De K "_law_many" wZ) (fQ:De K "is_formed" w5) (dV:De K "many_only" w6) (eE:De K "only_strikes" rR) (dv:De K "place_strikes" qd) (dk:De K "step_strikes" rS) (es:De K "rest_of_square" pf) (eU:De K "is_another_with_only" jH) (ey:De K "strikes_on_floor" mX) (cQ:Me K "is_joined" "Joined.is_joined" mY bt) (el:Me K "holds" "NoSquare.holds" ph bC) (dG:De K "cells_of" zS) (dM:De K "checked_floor" qe) (ew:De K "_law_rule" w9) (fw:De K "strikes_by_line" nK) (eJ:De K "count_strikes" qf) (ec:De K "square_strikes" pi) (fO:De K "reach_strikes" qg) (dY:De K "turn_strikes" rT) (eR:De K "is_formed_supposing" kz) (cy:De K "is_passed_over" pj) (cv:De K "strikes_what_stands" kA) (bL:Me K "holds" "Joined.holds" rV bq) (bU:Me K "holds" "Ring.holds" vE bn) (cB:De K "read_rule" xa) (bz:De K "ways_strikes" rW) (cj:De K "strikes_by_region" lW) (cu:De K "read_rules" vF) (ci:De K "strikes_by_number" lX) (bB:Me K "__init__" "Puzzle.__init__" nM br) (bJ:De K "strikes" Bk) (cg:De K "allowed" Bl) (bm:De K "fault_in" zX) (bo:De K "_law_fault" vH) (bM:De K "let_by" Ee) (bx:De K "follow_from" nF) (cx:De K "_law_due" zY) (cR:De K "_law_followed" qh) (bk:De K "_law_made" xb) (bQ:De K "law" zZ) (bj:GT0 K "KINDS" sG) (aF:GT0 K "LINE_KINDS" jK) (ag:GT0 K "NUMBER_KINDS" iA) (ae:GT0 K "OF_ALL_CELLS" iy) (av:GT0 K "WITH_NUMBER" jb) (aK:GT0 K "WITH_SIGN" iH) (N:GD0 w K "RULES_OF_KIND" gd_RULES_OF_KIND) (Pz:nsIn K mainGlobals "FIGURES"=some (some (.str (tx [48,49,50,51,52,53,54,55,56,57]) aR))) (Pf:nsIn K mainGlobals "MOST_CELLS"=some (some (.int 16 ai))) (O5:nsIn K mainGlobals "MOST_FIGURES"=some (some (.int 9 R))) (Pd:nsIn K mainGlobals "MOST_NUMBER"=some (some (.int 99 ac))) (Pg:nsIn K mainGlobals "MOST_RULES"=some (some (.int 12 ao))) (Pp:nsIn K mainGlobals "MOST_SIDE"=some (some (.int 6 aG))) (Ph:nsIn K mainGlobals "MOST_SIGNS"=some (some (.int 6 ay))) (Pq:nsIn K mainGlobals "MOST_WAYS"=some (some (.int 32 aD))) (PB:nsIn K mainGlobals "SUPPOSE"=some (some (.str (tx [115,117,112,112,111,115,101]) aO))) (z:Zn K) (PK:Nn K "divmod"):
  ∃ fd:FuncData,(∀(s:Shared) (v:Value),BindsTo s fd ⟨[v],[]⟩ [("_law_script",v)])/\∀ base:Heap,K.In base->base.Ns mainGlobals mg->FnOk l.prog w K mg base CX0 16 fa fd ["_law_script"] (AB K):=by
 obtain⟨f,fd,a,F⟩:=bQ.ex;have e:=ej.symm.trans (PySem.W.mg_of X G a);cases e;obtain⟨oc,od,kV,eO,pm,an,PQ,ct,fX,rfl,lk,fW⟩:=F.ex;refine⟨fnOf "law" "law" (dW zZ) (cN zZ) (aZ zZ) .none kV eO pm an PQ ct,λs v=>.of_eq rfl,λbase _ _=>?_⟩;let Z:Z5:=⟨l.prog,w,K,mg,base⟩;have j:Bt3 Z:=LG X G z;let c:Uk:=mkC x1 x2 x3 x4 x5 x6 x7 x8;let d:Ul:=mkD y1;have CC:C8 K x1 x2 x3 x4 x5 x6 x7 x8:=⟨S.cl,aW.cl,T.cl,aJ.cl,aw.cl,C.cl,D.cl,J.cl⟩;have OH:=j.ns Pz;have N6:=j.ns Pf;have NM:=j.ns O5;have N2:=j.ns Pd;have Od:=j.ns Pg;have N0:=j.ns Pp;have N7:=j.ns Ph;have Ot:=j.ns Pq;have OI:=j.ns PB;let a:EA:=(⟨o,M,o,U,I,L,o,Y,O,P,aj,b⟩:EA);have EM:ErrMx Z.mg a:=⟨j.ns Oy,j.ns OM,j.ns OZ,j.ns O0,j.ns OG,j.ns Pc,j.ns O1,j.ns O2,j.ns ON,j.ns Ng⟩;have BV:Z.mg "ValueError"=none:=Tk X G Oi;have t:XD Z.K a.BadThought a.ClueError q:=⟨⟨f1_BadThought,f2_BadThought,f3_BadThought,f4_BadThought,f5_BadThought⟩,⟨_,_,_,_,_,_,_,_,_,_,_,_,_,_,r1_BadThought⟩,⟨_,_,_,_,DE1,Hu (by rw[DE2];exact DE3) DE4⟩,i1_BadThought,i2_BadThought,i3_BadThought,i4_BadThought⟩;have B:xM Z.K a "BadThought" a.BadThought (uR a):=⟨Ng,t.is,⟨_,_,t⟩,i5_BadThought,f6_BadThought,f7_BadThought,(Ro.mpr ⟨g_BadThought_NoFloor,(Ro.mpr ⟨g_BadThought_NoMove,(Ro.mpr ⟨g_BadThought_NoName,(Ro.mpr ⟨g_BadThought_NoPuzzle,(Ro.mpr ⟨g_BadThought_NoRow,(Ro.mpr ⟨g_BadThought_NoRule,(Ro.mpr ⟨g_BadThought_NoText,(Ro.mpr ⟨g_BadThought_TooMany,(λ_ z=>nomatch z)⟩)⟩)⟩)⟩)⟩)⟩)⟩)⟩)⟩;have ak:=XCal.of j Ng t (qN j EM t ⟨j1_BadThought,j2_BadThought,j3_BadThought⟩ i5_BadThought dI_BadThought);have bd:=Tk X G PK;have MA:FldK Z.K c "amount":=fk8 CC aS;have ME:FldK Z.K c "cells":=fk8 CC aX;have MI:FldK Z.K c "floor":=fk8 CC aU;have MU:FldK Z.K c "mark":=fk8 CC bi;have Nh:FldK Z.K c "words":=fk8 CC aT;have MY:FldK Z.K d "floor":=⟨λ_ _=>⟨u.cl,aV⟩⟩;have Ni:FldK Z.K d "given":=⟨λ_ _=>⟨u.cl,aY⟩⟩;have Nt:FldK Z.K d "laws":=⟨λ_ _=>⟨u.cl,bg⟩⟩;have O9:=bj.of j;have Of:=aF.of j;have NW:=ag.of j;have NP:=ae.of j;have N3:=av.of j;have Os:=aK.of j;have Nz:=GD0.of (Z:=Z) N j;have Mx:=EE j D0;have Mw:=BG j D1;have Nu:=Gz j D2;have On:=DD j D3;have NN:=Ir j D4;have MD:=Iu j D5;have MM:=GA j D6;have Mv:=EF j D7;have NQ:=zw j D8;have Na:=tq j D9;have M8:=DG j ea;have M9:=DH j er;have Op:=DI j dw;have aL:=xS j MA ME MI MU Nh fT;have OT:aN Z "Unlike" (c.A .Unlike) c:=aL.mke j S;have bs:aN Z "Sum" (c.A .Sum) c:=aL.mke j aW;have OS:aN Z "Rising" (c.A .Rising) c:=aL.mke j T;have Pl:aN Z "Seen" (c.A .Seen) c:=aL.mke j aJ;have O8:aN Z "Count" (c.A .Count) c:=aL.mke j aw;have OR:aN Z "Joined" (c.A .Joined) c:=aL.mke j C;have OA:aN Z "NoSquare" (c.A .NoSquare) c:=aL.mke j D;have Pk:aN Z "Ring" (c.A .Ring) c:=aL.mke j J;have dN:=DJ j Nh dT;have Pj:Iq Z c:=⟨λi hi=>dN.at (c8 CC i) (at8 eK i) λ_ _ _ _ h=>⟨i,h⟩⟩;have eH:=BH j ME fo;have MP:oh Z c:=⟨λi hi=>eH.at (c8 CC i) (at8 ei i) λ_ _ _ _ h=>⟨i,h⟩⟩;have dr:=AC j MA eL;have Nf:xR Z c:=⟨λi hi=>dr.at (c8 CC i) (at8 fB i) λ_ _ _ _ h=>⟨i,h⟩⟩;have di:=DL j MU eN;have M4:vm Z c:=⟨λi hi=>di.at (c8 CC i) (at8 dC i) λ_ _ _ _ h=>⟨i,h⟩⟩;have eM:=xT j ME ev;have MJ:lN Z c:=⟨λi hi=>eM.at (c8 CC i) (at8 eq i) λ_ _ _ _ h=>⟨i,h⟩⟩;have OP:=fk1 (k:=.Joined) rfl ME;have O3:=fk1 (k:=.Joined) rfl MU;have aM:=mF (c:=(mk1 c .Joined)) j OP O3 bw;have O6:kh Z (mk1 c .Joined):=⟨λi hi=>by cases re hi;exact aM.at C.cl (at8 bu .Joined) λ_ _ _ _ h=>⟨.Joined,h⟩⟩;have O7:=fk1 (k:=.Ring) rfl ME;have Pe:=fk1 (k:=.Ring) rfl MU;have be:=mF (c:=(mk1 c .Ring)) j O7 Pe bw;have Pi:kh Z (mk1 c .Ring):=⟨λi hi=>by cases re hi;exact be.at J.cl (at8 bu .Ring) λ_ _ _ _ h=>⟨.Ring,h⟩⟩;have fD:=mF j ME MU bw;have M2:kh Z c:=⟨λi hi=>fD.at (c8 CC i) (at8 bu i) λ_ _ _ _ h=>⟨i,h⟩⟩;have Ol:=DM j OH NM eF;have dR:=zx (c:=c) j MY dP;have MR:og Z c d:=⟨λi hi=>by cases i;exact dR.at u.cl Ps λ_ _ _ _ h=>h⟩;have dm:=zy (c:=c) j Ni eb;have Pa:Fv Z c d:=⟨λi hi=>by cases i;exact dm.at u.cl Pt λ_ _ _ _ h=>h⟩;have dQ:=zA (c:=c) j Nt eP;have MX:rD Z c d:=⟨λi hi=>by cases i;exact dQ.at u.cl Pu λ_ _ _ _ h=>h⟩;have My:=zB j fP;have Oh:=BK j ez;have MS:=DN j bd en;have NE:=BL j dx;have NB:=BM j eI;have Oa:=BN j cq;have NK:=xU j cq;have N9:=BO j fG;have MW:=AD j dI;have ML:=AE j fF;have Ow:=DO j dK;have Og:=BP j EM B BV dL;have MF:=wn j Mx fV;have MQ:=Iv j Nu eZ;have Om:=DQ j Nu dF;have Nv:=GB j NN MD eA;have Mu:=EG j MD fr;have MZ:=GC j Mx Mw eY;have OJ:=GD j Pj Nz dp;have MC:=Iw j MP fR;have MT:=EH j MD eW;have OB:=EI j MP ed;have OU:=Ix j MP eS;have Np:=wo j M8 eu;have NX:=zG j M9 OI eB;have OE:=EJ j NN eV;have dt:=zI j MJ dJ;have ft:=DT j MA MJ fx;have dq:=zJ j MJ fE;have dO:=BQ j MA MJ fb;have fH:=AF j MA M2 eo;have MV:=xV j Ol dX;have N8:=BR j Mx Mw fl;have N1:=AG j MS eG;have Oo:=DU j MS fp;have MH:=AH j MW ef;have OC:=EK j MF N6 N0 N7 fn;have Nw:=GE j Om Mw On dh;have M7:=GF j MQ eT;have MK:=EL j Nv dH;have NY:=Iy j Nv fy;have Pm:=KC j Mu fN;have M0:=GG j MF dl;have NO:=zM j OJ Mx MX MP du;have NA:=xW j Mu ek;have Ob:=BS j Mu dB;have NS:=zN j Na MC Mu fI;have N4:=AI j MM Mv MC Mu Nf eD;have OV:=IA j MQ fs;have Oj:=fk1 (k:=.Ring) rfl MI;have bf:=qK (c:=(mk1 c .Ring)) j MQ Oj fS;have Oz:pb Z (mk1 c .Ring):=⟨λi hi=>by cases re hi;exact bf.at J.cl PH λ_ _ _ _ h=>h⟩;have Nj:=zO j MV dU;have Oc:=BT j Mw MV dn;have OK:=GH j O8 OR OA Pk OS Pl bs OT eg;have NI:=xX j N8 eC;have NC:=xY j N1 MS et;have NZ:=zP j N9 Oo Oa fL
 have Nl:∀ n,qI Z n:=λn=>by
  induction n with
  | zero=>exact calF j cd bd1 Av
  | succ n ih=>exact Cal.up (DZ j ih cd) #[0]
 have Ov:=Ea j NO MZ M0 Mx MR O9 fQ;have MN:=Eb j MK dV;have NR:=zQ j MK MC eE;have NF:=xZ j M0 MT Mv MC MP dv;have NT:=zR j OB OU NA Ob dk;have No:=wq j Nw es;have M3:=pp j MK MZ eU;have Mz:=tZ j M9 MZ M0 MR ey;have OQ:=fk1 (k:=.Joined) rfl MI;have aQ:=lV (c:=(mk1 c .Joined)) j M7 OQ cQ;have OO:mO Z (mk1 c .Joined):=⟨λi hi=>by cases re hi;exact aQ.at C.cl Py λ_ _ _ _ h=>⟨.Joined,h⟩⟩;have bh:=lV (c:=(mk1 c .Ring)) j M7 Oj cQ;have O4:mO Z (mk1 c .Ring):=⟨λi hi=>by cases re hi;exact bh.at J.cl PJ λ_ _ _ _ h=>⟨.Ring,h⟩⟩;have dS:=wr j Op Nw MI M2 el;have OD:=EN j Mw Oc NP dG;have NJ:=x9 j OC dM;have Ox:=Ec j NB NC NE ew;have Nk:=vD j NQ NR NS NF NT Pa MR MX fw;have NH:=ya j MT MN Mv MC Nf M4 eJ;have Nq:=wt j MN Mv No M4 ec;have NG:=yc j M3 MC M7 MD M4 fO;have NU:=zT j OV MQ MK MT MN Mv M4 dY;have M5:=qL j Mx Mz eR;have Nr:=wu j MD Mz cy;have M6:=qM j MD Mz cv;have aH:=zV (c:=(mk1 c .Joined)) j OO O6 bL;have bc:=BU (c:=(mk1 c .Ring)) j Oz O4 Pi bU;have Pb:Fw Z c:=⟨λi hi=>by cases i with | Rule=>exact(P7 hi).elim | Unlike=>exact dt.at S.cl Pw λ_ _ _ _ h=>h | Sum=>exact ft.at aW.cl PL λ_ _ _ _ h=>h | Rising=>exact dq.at T.cl Px λ_ _ _ _ h=>h | Seen=>exact dO.at aJ.cl PF λ_ _ _ _ h=>h | Count=>exact fH.at aw.cl PC λ_ _ _ _ h=>h | Joined=>exact aH.at C.cl Pr (λvs H Q E h=>by obtain⟨r,p,f,ws,cs,xs,n,m,h,w,g,e,x,y⟩:=h;exact⟨r,p,f,ws,cs,xs,n,m,h,w,g,e,⟨rfl,x.ex⟩,y⟩) | NoSquare=>exact dS.at D.cl Po λ_ _ _ _ h=>h | Ring=>exact bc.at J.cl PD (λvs H Q E h=>by obtain⟨r,p,f,ws,cs,xs,n,m,h,w,g,e,x,y⟩:=h;exact⟨r,p,f,ws,cs,xs,n,m,h,w,g,e,⟨rfl,x.ex⟩,y⟩)⟩;have Ou:=Ed j OD Nj OK N2 N3 Os cB;have NV:=zW j MM Mv MC Mu Pm Np M8 Ot Pb bz;have Nd:=tu j NG Nq NU MR MX cj;have Oe:=BW j Ou Od cu;have Nb:=tw j NH N4 NV MX ci;have bV:=vG j NI NJ Oe MY Ni Nt bB;have OY:nJ Z "Puzzle" (d.A .Puzzle) c d:=bV.mke j u;have OL:=GI j Nk Nb Nd Of NW bJ;have Ny:=GJ j Ov OL cg
 have M1:∀ n,n6 Z c d n:=λn=>by
  induction n with
  | zero=>exact calF j bm bd3 BC
  | succ n ih=>exact Cal.up (EO j Ny MM ih M5 Nr NX NY OE bm) #[0]
 have MG:∀ n,i8 Z c d n:=λn=>by
  induction n with
  | zero=>exact calF j bo bd3 zh
  | succ n ih=>exact Cal.up (BX j ML ih MW MH Ny MR bo) #[0]
 have OX:=IB j (M1 3) bM;have N5:=AJ j MM (M1 3) M6 NY EM B ak bx;have OF:=EQ j ML (MG 3) MH cx;have NL:=yd j Og N5 EM B cR
 have Nm:∀ n,qJ Z c d n:=λn=>by
  induction n with
  | zero=>exact calF j bk bd6 Ay
  | succ n ih=>exact Cal.up (Ef j ML Ow My (MG (n+1)) ih NK MH NZ bk) #[0]
 exact(LU j My OF (MG 3) Oh NL (Nm 3) (Nl 3) Ox OX OY F).imp λvs H Q E h=>by obtain⟨a,ns,e,hS,hn,k⟩:=h;exact⟨a,ns,e,hS,hn,λk hk=>by cases k <;> first | rfl | exact absurd rfl hk,rfl,k⟩
def walk {q:Program} {b:List Str} {o:(Str->Option Value)->Heap->Prop} {i:World->Heap->Prop} {d:DefRec} {K:Params->Frag} (p:l.most=some 63) (e:d.params.defaults=[])
  (t:∀(w:World) (h:Heap),i w h->(K w.params).In h)
  (F:∀(w:World) (c:Str->Option Value) (j:Addr) (h:Heap),(K w.params).In h->h.Ns mainGlobals c->c d.name=↑j->
   ∃ g:FuncData,(∀(s:Shared) (u:Value),BindsTo s g ⟨[u],[]⟩ [("_law_script",u)])/\∀ base:Heap,(K w.params).In base->base.Ns mainGlobals c->FnOk l.prog w (K w.params) c base CX0 16 j g ["_law_script"] (AB (K w.params))):
  PySem.W.WalkO q b o i l.row.toRowW d [] (λf vs=>PySem.call f vs):=
 L2.JP (n:=63) (k:=16) (x:="_law_script") (CX:=λ_=>CX0) (sp:=λw=>AB (K w.params)) p #[1] e ⟨rfl,by decide,by decide⟩ t F (λ_ _ a ns r _ m=>⟨a,ns,rfl,m,r,λ_=>rfl⟩) λ_ _ _ _ _ z=>z
variable{P:Program}{w:World}{K:Frag}{mg:Str->Option Value}{base:Heap}
def wv {w:World} {K:Frag} {p:Addr} {ep:Nat} {x:Int} {aq:Tok} {Y:Addr} {s:Option Addr} {av:Nat} {A:Array (Option Value)} {d:Tok} {P:Int} {ag:Tok} {I:Addr} {r:Option Addr} {ae:Nat} {D:Array (Option Value)} {i:Tok} {L:Int} {am:Tok} {v:Addr} {Q:Option Addr} {aj:Nat} {W:Array (Option Value)} {k:Tok} {C:Int} {aw:Tok} {F:Addr} {z:Option Addr} {al:Nat} {B:Array (Option Value)} {l:Tok} {J:Int} {au:Tok} {S:Addr} {m:Option Addr} {as:Nat} {o:Array (Option Value)} {g:Tok} {R:Int} {ak:Tok} {G:Addr} {u:Option Addr} {ao:Nat} {N:Array (Option Value)} {c:Tok} {t:Int} {ai:Tok} {X:Addr} {y:Option Addr} {ac:Nat} {q:Array (Option Value)} {h j:Tok} {n:Int} {af:Tok} {E:Addr} {Z:Option Addr} {ab:Nat} {T:Array (Option Value)} {f:Tok} {U:Int} {ar:Tok} {M:Addr} {O:Option Addr} {ap:Nat} {H:Array (Option Value)} {e:Tok}
  (a:nsIn K mainGlobals "RULES_OF_KIND"=some ↑p) (b:K.lookup p=some ⟨.type "dict",none,.dict #[⟨x,.str (tx [111,110,108,121]) aq,.ref Y⟩,⟨P,.str (tx [112,108,97,99,101]) ag,.ref I⟩,⟨L,.str (tx [99,111,117,110,116]) am,.ref v⟩,⟨C,.str (tx [115,116,101,112]) aw,.ref F⟩,⟨J,.str (tx [115,117,109]) au,.ref S⟩,⟨R,.str (tx [115,113,117,97,114,101]) ak,.ref G⟩,⟨t,.str (tx [114,101,97,99,104]) ai,.ref X⟩,⟨n,.str (tx [116,117,114,110]) af,.ref E⟩,⟨U,.str (tx [112,97,105,114]) ar,.ref M⟩] ep,#[]⟩) (k0:K.lookup Y=some ⟨.type "tuple",s,.seq #[.str (tx [117,110,108,105,107,101]) d] av,A⟩) (h0:x=hashStr w (tx [111,110,108,121])) (k1:K.lookup I=some ⟨.type "tuple",r,.seq #[.str (tx [117,110,108,105,107,101]) i] ae,D⟩) (h1:P=hashStr w (tx [112,108,97,99,101])) (k2:K.lookup v=some ⟨.type "tuple",Q,.seq #[.str (tx [99,111,117,110,116]) k] aj,W⟩) (h2:L=hashStr w (tx [99,111,117,110,116])) (k3:K.lookup F=some ⟨.type "tuple",z,.seq #[.str (tx [114,105,115,105,110,103]) l] al,B⟩) (h3:C=hashStr w (tx [115,116,101,112])) (k4:K.lookup S=some ⟨.type "tuple",m,.seq #[.str (tx [115,117,109]) g] as,o⟩) (h4:J=hashStr w (tx [115,117,109])) (k5:K.lookup G=some ⟨.type "tuple",u,.seq #[.str (tx [110,111,115,113,117,97,114,101]) c] ao,N⟩) (h5:R=hashStr w (tx [115,113,117,97,114,101])) (k6:K.lookup X=some ⟨.type "tuple",y,.seq #[.str (tx [106,111,105,110,101,100]) h,.str (tx [114,105,110,103]) j] ac,q⟩) (h6:t=hashStr w (tx [114,101,97,99,104])) (k7:K.lookup E=some ⟨.type "tuple",Z,.seq #[.str (tx [114,105,110,103]) f] ab,T⟩) (h7:n=hashStr w (tx [116,117,114,110])) (k8:K.lookup M=some ⟨.type "tuple",O,.seq #[.str (tx [117,110,108,105,107,101]) e] ap,H⟩) (h8:U=hashStr w (tx [112,97,105,114])):GD0 w K "RULES_OF_KIND" gd_RULES_OF_KIND:=
 ⟨p,_,_,_,a,b,⟨rfl,rfl,rfl⟩,rfl,(.cons h0 k0 rfl rfl (QT (aL (QZ rfl))) (.cons ⟨_,rfl⟩ .nil) (.cons h1 k1 rfl rfl (QT (aL (QZ rfl))) (.cons ⟨_,rfl⟩ .nil) (.cons h2 k2 rfl rfl (QT (aL (QZ rfl))) (.cons ⟨_,rfl⟩ .nil) (.cons h3 k3 rfl rfl (QT (aL (QZ rfl))) (.cons ⟨_,rfl⟩ .nil) (.cons h4 k4 rfl rfl (QT (aL (QZ rfl))) (.cons ⟨_,rfl⟩ .nil) (.cons h5 k5 rfl rfl (QT (aL (QZ rfl))) (.cons ⟨_,rfl⟩ .nil) (.cons h6 k6 rfl rfl (QT (aL (QZ rfl))) (.cons ⟨_,rfl⟩ (.cons ⟨_,rfl⟩ .nil)) (.cons h7 k7 rfl rfl (QT (aL (QZ rfl))) (.cons ⟨_,rfl⟩ .nil) (.cons h8 k8 rfl rfl (QT (aL (QZ rfl))) (.cons ⟨_,rfl⟩ .nil) .nil))))))))),by decide+kernel⟩
end L2
end
open PySem PySem.W PyProof.Rows
namespace PySem.W.Fast
theorem Z:True:=⟨⟩
end PySem.W.Fast
set_option maxRecDepth 100000 in
set_option maxHeartbeats 0 in
theorem PySem.Challenge.cw_cluemaker_k41_where_a_book_is_refused_holds : PySem.Challenge.rw_cluemaker_k41_where_a_book_is_refused.Holds := by
  refine H9.t9 ?_
  k_fill
  refine L2.walk (l := PySem.Challenge.rw_cluemaker_k41_where_a_book_is_refused) rfl rfl (fun w h Y => PySem.W.kIn_of Y) ?F
  case F =>
    intro w mg fa h KX G hmg
    refine' L2.LV KX G hmg ?Oy ?OM ?OZ ?O0 ?OG ?Pc ?O1 ?O2 ?ON ?Ng ?Oi ?DE1 ?DE2 ?DE3 ?DE4 ?r1_BadThought ?f1_BadThought ?f2_BadThought ?f3_BadThought ?f4_BadThought ?f5_BadThought ?i1_BadThought ?i2_BadThought ?i3_BadThought ?i4_BadThought ?i5_BadThought ?j1_BadThought ?j2_BadThought ?j3_BadThought ?f6_BadThought ?f7_BadThought ?g_BadThought_NoFloor ?g_BadThought_NoMove ?g_BadThought_NoName ?g_BadThought_NoPuzzle ?g_BadThought_NoRow ?g_BadThought_NoRule ?g_BadThought_NoText ?g_BadThought_TooMany ?dI_BadThought ?_ ?_ ?_ ?_ ?_ ?_ ?_ ?_ ?_ ?_ ?_ ?_ ?_ ?_ ?_ ?_ ?_ ?_ ?_ ?_ ?_ ?_ ?_ ?_ ?_ ?_ ?_ ?_ ?_ ?_ ?_ ?_ ?_ ?_ ?_ ?_ ?_ ?_ ?_ ?_ ?_ ?_ ?_ ?_ ?_ ?_ ?_ ?_ ?_ ?_ ?_ ?_ ?_ ?_ ?_ ?_ ?_ ?_ ?_ ?_ ?_ ?_ ?_ ?_ ?_ ?_ ?_ ?_ ?_ ?_ ?_ ?_ ?_ ?_ ?_ ?_ ?_ ?_ ?_ ?_ ?_ ?_ ?_ ?_ ?_ ?_ ?_ ?_ ?_ ?_ ?_ ?_ ?_ ?_ ?_ ?_ ?_ ?_ ?_ ?_ ?_ ?_ ?_ ?_ ?_ ?_ ?_ ?_ ?_ ?_ ?_ ?_ ?_ ?_ ?_ ?_ ?_ ?_ ?_ ?_ ?_ ?_ ?_ ?_ ?_ ?_ ?_ ?_ ?_ ?_ ?_ ?_ ?_ ?_ ?_ ?_ ?_ ?_ ?_ ?_ ?_ ?_ ?_ ?_ ?_ ?_ ?_ ?_ ?_ ?_ ?_ ?_ ?_ ?_ ?_ ?_ ?_ ?_ ?_ ?_ ?_ ?_ ?_ ?_ ?_ ?_ ?_ ?_ ?_ ?_ ?_ ?_ ?_ ?_
    (case Oy=>k_is);(case OM=>k_is);(case OZ=>k_is);(case O0=>k_is);(case OG=>k_is);(case Pc=>k_is);(case O1=>k_is);(case O2=>k_is);(case ON=>k_is);(case Ng=>k_is);(case Oi=>k_is);(case DE1=>k_is)
    (case DE2 => exact rfl)
    (case DE3=>k_is)
    (case DE4 => first | kernel_rfl | exact rfl)
    (case r1_BadThought=>k_is);(case f1_BadThought=>k_is);(case f2_BadThought=>k_is);(case f3_BadThought=>k_is);(case f4_BadThought=>k_is);(case f5_BadThought=>k_is);(case i1_BadThought=>k_is);(case i2_BadThought=>k_is);(case i3_BadThought=>k_is);(case i4_BadThought=>k_is);(case i5_BadThought=>k_is);(case j1_BadThought=>k_is);(case j2_BadThought=>k_is);(case j3_BadThought=>k_is)
    (case f6_BadThought => kit_is)
    (case f7_BadThought => kts_exm)
    (case g_BadThought_NoFloor => kit_is)
    (case g_BadThought_NoMove => kit_is)
    (case g_BadThought_NoName => kit_is)
    (case g_BadThought_NoPuzzle => kit_is)
    (case g_BadThought_NoRow => kit_is)
    (case g_BadThought_NoRule => kit_is)
    (case g_BadThought_NoText => kit_is)
    (case g_BadThought_TooMany => kit_is)
    (case dI_BadThought => (refine' L2.Me.of (L2.Cg ?l ?c ?k) ?n; (case l => k_is); (case c => k_is); (case k => k_is); case n => k_is))
    all_goals first
      | (refine' L2.De.of ?a (L2.Cg ?l ?c ?k); (case a => k_is); (case l => k_is); (case c => k_is); case k => k_is)
      | (refine' L2.Me.of (L2.Cg ?l ?c ?k) ?n; (case l => k_is); (case c => k_is); (case k => k_is); case n => k_is)
      | (refine' L2.ClsP.mk ?a ?b ?c ?d ⟨?e, ?f, ?g, ?h⟩; (case a => k_is); (case b => k_is); (case c => k_is); (case d => k_is); (case e => k_is); (case f => k_is); (case g => k_is); case h => k_is)
      | (unfold L2.At8; refine' ⟨?_, ?_, ?_, ?_, ?_, ?_, ?_, ?_⟩ <;> k_is)
      | (refine' L2.GT0.mk' ?a ?b ?x ?y ?c ?d; (case a => k_is); (case b => k_is); (case x => rfl); (case y => rfl); (case c => exact Nat.le_of_lt (L2.aL (by decide))); (case d => repeat' (first | exact .nil | refine' .cons ⟨_, rfl⟩ ?_)))
      | (refine' L2.wv ?a ?b ?k0 ?h0 ?k1 ?h1 ?k2 ?h2 ?k3 ?h3 ?k4 ?h4 ?k5 ?h5 ?k6 ?h6 ?k7 ?h7 ?k8 ?h8; (case a => k_is); (case b => k_is); (case k0 => k_is); (case h0 => first | exact rfl | with_unfolding_all rfl); (case k1 => k_is); (case h1 => first | exact rfl | with_unfolding_all rfl); (case k2 => k_is); (case h2 => first | exact rfl | with_unfolding_all rfl); (case k3 => k_is); (case h3 => first | exact rfl | with_unfolding_all rfl); (case k4 => k_is); (case h4 => first | exact rfl | with_unfolding_all rfl); (case k5 => k_is); (case h5 => first | exact rfl | with_unfolding_all rfl); (case k6 => k_is); (case h6 => first | exact rfl | with_unfolding_all rfl); (case k7 => k_is); (case h7 => first | exact rfl | with_unfolding_all rfl); (case k8 => k_is); case h8 => first | exact rfl | with_unfolding_all rfl)
      | (unfold L2.Zn; refine' ⟨?_, ?_, ?_, ?_, ?_, ?_, ?_, ?_, ?_, ?_, ?_, ?_, ?_, ?_, ?_, ?_, ?_, ?_, ?_⟩ <;> (unfold L2.Nn; k_is))
      | (unfold L2.Nn; k_is)
      | k_is
      | skip
