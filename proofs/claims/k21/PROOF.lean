import PyProof.Rows.All
import Wide.All
import OpenK.AllK
import Wide.FinOn
import Lean
import PyProof.EqAt
import PyProof.EqKinds
import PyProof.TupleCall
import PyProof.ReprRoads
import PyProof.IsInstance
import PyProof.IsInstanceH
import PyProof.FitsBits
import PyProof.CompFree
import PyProof.Rows.SumAny
import PyProof.Rows.SortShell
import PyProof.Rows.TupAdd
import PyProof.NeKinds
import PyProof.ConsumeWalk
import PyProof.ZipIter
import PyProof.TupleIter
import PyProof.LayNew
import PyProof.CollectWalk
import PyProof.ListNew
import PyProof.Draws
import PyProof.EnumFor
import PyProof.EnumMake
import PyProof.ListRange
import PyProof.CollectIter
import KE.KRevIter
import PyProof.ListMulRoad
import PyProof.TupleOps
import PyProof.TupleOfStr
import PyProof.WalksMore
import PyProof.FactsAll.range_iterator
import PyProof.IsRules
import PyProof.CompUse
import PyProof.P3In
import PyProof.EqLayable
import KE.KIsAll
import PyProof.Rows.FactsN_isinstance
import PyProof.CallStr
import PyProof.Rows.StrWeight2
import PyProof.Rows.FStr
import PyProof.StrLawsRepr
import PyProof.Rows.SetFrom
import KE.KIntText
import KE.KRevSl
import PyProof.Rows.SeqMore2
import OpenK.KOwn
import KE.KTryMore
import PySem.Challenge.RW_askedpairs_k21_by_all_answers
set_option Elab.async false
set_option linter.all false
set_option maxRecDepth 100000
noncomputable section
local macro_rules|`(∅)=>`(by rfl)
local macro_rules|`(⋯)=>`(by decide)
local macro_rules|`(↥0)=>`(by lia)|`(↥1)=>`(by simp)|`(↥2)=>`(by decide+kernel)|`(↥3)=>`(Or.inl rfl)|`(↥4)=>`(fun _ _=>rfl)|`(↥5)=>`(by intro _;rfl)|`(↥6)=>`(by kernel_rfl)|`(↥7)=>`(by simp;lia)|`(↥8)=>`(Nat.le_refl _)
local macro_rules|`(⇑0)=>`(PySem.W.Frag)
local macro_rules|`(↑$x)=>`(($x).heap.objs.size)
namespace L2
open PySem PySem.Spec PyProof.Rows
def ec(s:Stmt):Arguments:=match s with
  | .FunctionDef _ a _ _ _ _ _ _ _ _=>a
  | _=>{posonlyargs:=[],args:=[],vararg:=none,kwonlyargs:=[],kw_defaults:=[],kwarg:=none,defaults:=[]}
def cw(s:Stmt):List Stmt:=match s with
  | .FunctionDef _ _ b _ _ _ _ _ _ _=>b
  | _=>[]
def am(s:Stmt):Scope:=match s with
  | .FunctionDef _ _ _ _ _ _ sc _ _ _=>sc
  | _=>{kind:=.function,names:=[],isGenerator:=false,isCoroutine:=false}
end L2
namespace V21
open PySem PySem.Spec PyProof.Rows L2
def top(i:Nat):Stmt:=PySem.Challenge.pw_askedpairs_k21_by_all_answers.main.body.getD i (.Pass ⟨0,0,0,0⟩)
abbrev bP:Stmt:=top 6
abbrev cj:Stmt:=top 10
abbrev g_:Stmt:=top 11
abbrev pL:Stmt:=top 12
abbrev jj:Stmt:=top 13
abbrev hJ:Stmt:=top 14
abbrev kj:Stmt:=top 15
abbrev gB:Stmt:=top 17
abbrev cB:Stmt:=top 18
abbrev eO:Stmt:=top 21
abbrev fM:Stmt:=top 24
abbrev cu:Stmt:=top 25
abbrev bY:Stmt:=top 26
abbrev bV:Stmt:=top 27
abbrev l7:Stmt:=top 29
abbrev l6:Stmt:=top 30
abbrev f9:Stmt:=top 31
abbrev uh:Stmt:=top 32
abbrev pF:Stmt:=top 33
abbrev pG:Stmt:=top 34
abbrev kh:Stmt:=top 35
abbrev pH:Stmt:=top 36
abbrev pI:Stmt:=top 37
abbrev iY:Stmt:=top 38
abbrev l8:Stmt:=top 39
abbrev k9:Stmt:=top 40
abbrev uj:Stmt:=top 41
abbrev gA:Stmt:=top 42
abbrev ui:Stmt:=top 43
abbrev jT:Stmt:=top 44
abbrev gy:Stmt:=top 45
abbrev ji:Stmt:=top 46
abbrev iX:Stmt:=top 47
abbrev bX:Stmt:=top 48
abbrev dQ:Stmt:=top 49
abbrev gZ:Stmt:=top 50
abbrev mP:Stmt:=top 51
abbrev eD:Stmt:=top 52
abbrev cA:Stmt:=top 53
abbrev pJ:Stmt:=top 54
abbrev qU:Stmt:=top 55
abbrev iZ:Stmt:=top 56
abbrev pK:Stmt:=top 57
def kL(n:Str)(bs mro:List Value)(ns:Addr)(sub:List Value)(sl:Array (Option Value)):Obj:=⟨.type "type",none,.cls {name:=n,bases:=bs,mro:=mro,ns:=ns,qualname:=n,hasDict:=true,slotNames:=[],subclasses:=sub,abstract:=false,collection:=none,hasDel:=false},sl⟩
def kE(P:Params)(k:Str)(t:Tok)(v:Value):DictEntry:=⟨PyData.keyHash P k,.str k t,v⟩
def kF(n:Str)(s:Stmt)(doc pm:Value)(c:Addr):Obj:=⟨.type "function",none,.func (W.fnOf n n (ec s) (cw s) (am s) .none .none doc pm none (.ref c) .none),#[]⟩
def kI(n:Int):Value:=.int n 0
def kC(n:Str)(a:Nat)(l:List Value)(z:Nat):Obj:=⟨.type "code",none,.fields (Value.str n a::Value.str n (a+1)::Value.str "/claim/cut.py" (a+2)::l++[Value.str "/claim/cut.py" z]).toArray,#[]⟩
def kT(l:List Value)(n:Nat):Obj:=⟨.type "tuple",none,.seq l.toArray n,#[]⟩
def HU:Value:=.str "askedpairs.errors" 187
def yG:Value:=.str "askedpairs.fractions" 279
def G2:Value:=.str "askedpairs.runs" 336
def HV:Value:=.str "askedpairs.trees" 350
def C9:Value:=.str "askedpairs.answering" 369
def el:Value:=.str "law_askedpairs_k21_by_all_answers" 402
def kK(P:Params):W.Frag:=[(3,⟨.type "dict",none,.dict (List.toArray [kE P "__name__" 165 (.str "law_askedpairs_k21_by_all_answers" 402),kE P "__doc__" 166 (.none),kE P "__package__" 167 (.none),kE P "__loader__" 168 (.builtin "__main__.__loader__#opaque"),kE P "__spec__" 169 (.none),kE P "__annotations__" 170 (.ref 6),kE P "__builtins__" 171 (.ref 4),kE P "__file__" 173 (.str "/claim/cut.py" 172),kE P "__cached__" 174 (.none),kE P "PairsError" 206 (.ref 24),kE P "TooMany" 222 (.ref 37),kE P "NoRise" 238 (.ref 49),kE P "NotTwoSided" 254 (.ref 61),kE P "NoText" 270 (.ref 73),kE P "refuse_above" 278 (.ref 82),kE P "ZERO" 283 (.ref 83),kE P "ONE" 286 (.ref 84),kE P "common_divisor" 294 (.ref 91),kE P "lowest" 303 (.ref 98),kE P "plus" 311 (.ref 105),kE P "times" 319 (.ref 112),kE P "one_less" 326 (.ref 119),kE P "total" 335 (.ref 126),kE P "kept_of" 343 (.ref 131),kE P "worth_kept" 349 (.ref 136),kE P "END" 354 (.int (-1) 353),kE P "run_tree" 368 (.ref 143),kE P "MOST_TIES_BY_ANSWERS" 372 (.int (10) 371),kE P "chance_by" 383 (.ref 150),kE P "chance_of" 389 (.ref 155),kE P "all_answers" 395 (.ref 160),kE P "by_answers" 401 (.ref 165),kE P "_law_mixed" 412 (.ref 172),kE P "_law_draws" 423 (.ref 179),kE P "_law_next" 430 (.ref 186),kE P "_law_gcd" 438 (.ref 193),kE P "_law_low" 447 (.ref 200),kE P "_law_plus" 455 (.ref 207),kE P "_law_times" 463 (.ref 214),kE P "_law_rest" 470 (.ref 221),kE P "_law_same" 478 (.ref 228),kE P "_law_chance" 487 (.ref 235),kE P "_law_worth" 495 (.ref 242),kE P "_law_ties" 514 (.ref 249),kE P "_law_web" 530 (.ref 256),kE P "_law_asks_of" 536 (.ref 261),kE P "_law_may" 548 (.ref 268),kE P "_law_behind" 561 (.ref 275),kE P "_law_askable" 567 (.ref 280),kE P "_law_grown" 573 (.ref 285),kE P "_law_answers" 584 (.ref 292),kE P "_law_all_answers" 590 (.ref 297),kE P "_law_chance_of" 601 (.ref 304),kE P "_law_run_tree" 614 (.ref 311),kE P "_law_kept" 620 (.ref 316),kE P "_law_tree_worth" 631 (.ref 323),kE P "_law_renumbered" 637 (.ref 328),kE P "_law_tree" 647 (.ref 335),kE P "_law_ten" 653 (.ref 340),kE P "_law_refused" 663 (.ref 347),kE P "law" 678 (.ref 354)]) 61,#[]⟩),
  (82,kF "refuse_above" bP (.none) HU 81),
  (81,kC "refuse_above" 271 [kI 12,kI 2,kI 0,kI 0,kI 3,.ref 76,.bool true,kI 181,.ref 77,.none,.ref 78,.ref 79,.ref 80,kI 276,kI 12] 277),
  (91,kF "common_divisor" cj (.none) yG 90),
  (90,kC "common_divisor" 287 [kI 18,kI 2,kI 0,kI 0,kI 3,.ref 85,.bool true,kI 181,.ref 86,.none,.ref 87,.ref 88,.ref 89,kI 292,kI 18] 293),
  (98,kF "lowest" g_ (.none) yG 97),
  (97,kC "lowest" 295 [kI 22,kI 2,kI 0,kI 0,kI 3,.ref 92,.bool true,kI 181,.ref 93,.none,.ref 94,.ref 95,.ref 96,kI 301,kI 22] 302),
  (105,kF "plus" pL (.none) yG 104),
  (104,kC "plus" 304 [kI 27,kI 2,kI 0,kI 0,kI 3,.ref 99,.bool true,kI 181,.ref 100,.none,.ref 101,.ref 102,.ref 103,kI 309,kI 27] 310),
  (112,kF "times" jj (.none) yG 111),
  (111,kC "times" 312 [kI 29,kI 2,kI 0,kI 0,kI 3,.ref 106,.bool true,kI 181,.ref 107,.none,.ref 108,.ref 109,.ref 110,kI 317,kI 29] 318),
  (119,kF "one_less" hJ (.none) yG 118),
  (118,kC "one_less" 320 [kI 31,kI 1,kI 0,kI 0,kI 3,.ref 113,.bool true,kI 181,.ref 114,.none,.ref 115,.ref 116,.ref 117,kI 324,kI 31] 325),
  (126,kF "total" kj (.none) yG 125),
  (125,kC "total" 327 [kI 33,kI 1,kI 0,kI 0,kI 3,.ref 120,.bool true,kI 181,.ref 121,.none,.ref 122,.ref 123,.ref 124,kI 333,kI 33] 334),
  (131,kF "kept_of" gB (.none) G2 130),
  (130,kC "kept_of" 338 [kI 39,kI 1,kI 0,kI 0,kI 3,.ref 127,.bool true,kI 181,.ref 128,.none,.none,.none,.ref 129,kI 341,kI 39] 342),
  (136,kF "worth_kept" cB (.none) G2 135),
  (135,kC "worth_kept" 344 [kI 41,kI 2,kI 0,kI 0,kI 3,.ref 132,.bool true,kI 181,.ref 133,.none,.none,.none,.ref 134,kI 347,kI 41] 348),
  (143,kF "run_tree" eO (.none) HV 142),
  (142,kC "run_tree" 355 [kI 45,kI 3,kI 0,kI 0,kI 3,.ref 137,.bool true,kI 181,.ref 138,.none,.ref 139,.ref 140,.ref 141,kI 366,kI 45] 367),
  (150,kF "chance_by" fM (.none) C9 149),
  (149,kC "chance_by" 373 [kI 55,kI 2,kI 0,kI 0,kI 3,.ref 144,.bool true,kI 181,.ref 145,.none,.ref 146,.ref 147,.ref 148,kI 381,kI 55] 382),
  (155,kF "chance_of" cu (.none) C9 154),
  (154,kC "chance_of" 384 [kI 60,kI 2,kI 0,kI 0,kI 3,.ref 151,.bool true,kI 181,.ref 152,.none,.none,.none,.ref 153,kI 387,kI 60] 388),
  (160,kF "all_answers" bY (.none) C9 159),
  (159,kC "all_answers" 390 [kI 62,kI 1,kI 0,kI 0,kI 3,.ref 156,.bool true,kI 181,.ref 157,.none,.none,.none,.ref 158,kI 393,kI 62] 394),
  (165,kF "by_answers" bV (.none) C9 164),
  (164,kC "by_answers" 396 [kI 67,kI 2,kI 0,kI 0,kI 3,.ref 161,.bool true,kI 181,.ref 162,.none,.none,.none,.ref 163,kI 399,kI 67] 400),
  (172,kF "_law_mixed" l7 (.none) el 171),
  (171,kC "_law_mixed" 404 [kI 71,kI 2,kI 0,kI 0,kI 3,.ref 166,.bool true,kI 181,.ref 167,.none,.ref 168,.ref 169,.ref 170,kI 410,kI 71] 411),
  (179,kF "_law_draws" l6 (.none) el 178),
  (178,kC "_law_draws" 413 [kI 74,kI 1,kI 0,kI 0,kI 3,.ref 173,.bool true,kI 181,.ref 174,.none,.ref 175,.ref 176,.ref 177,kI 421,kI 74] 422),
  (186,kF "_law_next" f9 (.none) el 185),
  (185,kC "_law_next" 424 [kI 87,kI 1,kI 0,kI 0,kI 3,.ref 180,.bool true,kI 181,.ref 181,.none,.ref 182,.ref 183,.ref 184,kI 428,kI 87] 429),
  (193,kF "_law_gcd" uh (.none) el 192),
  (192,kC "_law_gcd" 431 [kI 91,kI 2,kI 0,kI 0,kI 3,.ref 187,.bool true,kI 181,.ref 188,.none,.ref 189,.ref 190,.ref 191,kI 436,kI 91] 437),
  (200,kF "_law_low" pF (.none) el 199),
  (199,kC "_law_low" 439 [kI 95,kI 2,kI 0,kI 0,kI 3,.ref 194,.bool true,kI 181,.ref 195,.none,.ref 196,.ref 197,.ref 198,kI 445,kI 95] 446),
  (207,kF "_law_plus" pG (.none) el 206),
  (206,kC "_law_plus" 448 [kI 98,kI 2,kI 0,kI 0,kI 3,.ref 201,.bool true,kI 181,.ref 202,.none,.ref 203,.ref 204,.ref 205,kI 453,kI 98] 454),
  (214,kF "_law_times" kh (.none) el 213),
  (213,kC "_law_times" 456 [kI 100,kI 2,kI 0,kI 0,kI 3,.ref 208,.bool true,kI 181,.ref 209,.none,.ref 210,.ref 211,.ref 212,kI 461,kI 100] 462),
  (221,kF "_law_rest" pH (.none) el 220),
  (220,kC "_law_rest" 464 [kI 102,kI 1,kI 0,kI 0,kI 3,.ref 215,.bool true,kI 181,.ref 216,.none,.ref 217,.ref 218,.ref 219,kI 468,kI 102] 469),
  (228,kF "_law_same" pI (.none) el 227),
  (227,kC "_law_same" 471 [kI 104,kI 2,kI 0,kI 0,kI 3,.ref 222,.bool true,kI 181,.ref 223,.none,.ref 224,.ref 225,.ref 226,kI 476,kI 104] 477),
  (235,kF "_law_chance" iY (.none) el 234),
  (234,kC "_law_chance" 479 [kI 106,kI 2,kI 0,kI 0,kI 3,.ref 229,.bool true,kI 181,.ref 230,.none,.ref 231,.ref 232,.ref 233,kI 485,kI 106] 486),
  (242,kF "_law_worth" l8 (.none) el 241),
  (241,kC "_law_worth" 488 [kI 116,kI 2,kI 0,kI 0,kI 3,.ref 236,.bool true,kI 181,.ref 237,.none,.ref 238,.ref 239,.ref 240,kI 493,kI 116] 494),
  (249,kF "_law_ties" k9 (.none) el 248),
  (248,kC "_law_ties" 496 [kI 118,kI 3,kI 0,kI 0,kI 3,.ref 243,.bool true,kI 181,.ref 244,.none,.ref 245,.ref 246,.ref 247,kI 512,kI 118] 513),
  (256,kF "_law_web" uj (.none) el 255),
  (255,kC "_law_web" 515 [kI 133,kI 3,kI 0,kI 0,kI 3,.ref 250,.bool true,kI 181,.ref 251,.none,.ref 252,.ref 253,.ref 254,kI 528,kI 133] 529),
  (261,kF "_law_asks_of" gA (.none) el 260),
  (260,kC "_law_asks_of" 531 [kI 143,kI 3,kI 0,kI 0,kI 3,.ref 257,.bool true,kI 181,.ref 258,.none,.none,.none,.ref 259,kI 534,kI 143] 535),
  (268,kF "_law_may" ui (.none) el 267),
  (267,kC "_law_may" 537 [kI 145,kI 3,kI 0,kI 0,kI 3,.ref 262,.bool true,kI 181,.ref 263,.none,.ref 264,.ref 265,.ref 266,kI 546,kI 145] 547),
  (275,kF "_law_behind" jT (.none) el 274),
  (274,kC "_law_behind" 549 [kI 153,kI 4,kI 0,kI 0,kI 3,.ref 269,.bool true,kI 181,.ref 270,.none,.ref 271,.ref 272,.ref 273,kI 559,kI 153] 560),
  (280,kF "_law_askable" gy (.none) el 279),
  (279,kC "_law_askable" 562 [kI 159,kI 2,kI 0,kI 0,kI 3,.ref 276,.bool true,kI 181,.ref 277,.none,.none,.none,.ref 278,kI 565,kI 159] 566),
  (285,kF "_law_grown" ji (.none) el 284),
  (284,kC "_law_grown" 568 [kI 161,kI 3,kI 0,kI 0,kI 3,.ref 281,.bool true,kI 181,.ref 282,.none,.none,.none,.ref 283,kI 571,kI 161] 572),
  (292,kF "_law_answers" iX (.none) el 291),
  (291,kC "_law_answers" 574 [kI 176,kI 2,kI 0,kI 0,kI 3,.ref 286,.bool true,kI 181,.ref 287,.none,.ref 288,.ref 289,.ref 290,kI 582,kI 176] 583),
  (297,kF "_law_all_answers" bX (.none) el 296),
  (296,kC "_law_all_answers" 585 [kI 184,kI 1,kI 0,kI 0,kI 3,.ref 293,.bool true,kI 181,.ref 294,.none,.none,.none,.ref 295,kI 588,kI 184] 589),
  (304,kF "_law_chance_of" dQ (.none) el 303),
  (303,kC "_law_chance_of" 591 [kI 189,kI 2,kI 0,kI 0,kI 3,.ref 298,.bool true,kI 181,.ref 299,.none,.ref 300,.ref 301,.ref 302,kI 599,kI 189] 600),
  (311,kF "_law_run_tree" gZ (.none) el 310),
  (310,kC "_law_run_tree" 602 [kI 194,kI 2,kI 0,kI 0,kI 3,.ref 305,.bool true,kI 181,.ref 306,.none,.ref 307,.ref 308,.ref 309,kI 612,kI 194] 613),
  (316,kF "_law_kept" mP (.none) el 315),
  (315,kC "_law_kept" 615 [kI 202,kI 2,kI 0,kI 0,kI 3,.ref 312,.bool true,kI 181,.ref 313,.none,.none,.none,.ref 314,kI 618,kI 202] 619),
  (323,kF "_law_tree_worth" eD (.none) el 322),
  (322,kC "_law_tree_worth" 621 [kI 204,kI 2,kI 0,kI 0,kI 3,.ref 317,.bool true,kI 181,.ref 318,.none,.ref 319,.ref 320,.ref 321,kI 629,kI 204] 630),
  (328,kF "_law_renumbered" cA (.none) el 327),
  (327,kC "_law_renumbered" 632 [kI 210,kI 2,kI 0,kI 0,kI 3,.ref 324,.bool true,kI 181,.ref 325,.none,.none,.none,.ref 326,kI 635,kI 210] 636),
  (335,kF "_law_tree" pJ (.none) el 334),
  (334,kC "_law_tree" 638 [kI 220,kI 3,kI 0,kI 0,kI 3,.ref 329,.bool true,kI 181,.ref 330,.none,.ref 331,.ref 332,.ref 333,kI 645,kI 220] 646),
  (340,kF "_law_ten" qU (.none) el 339),
  (339,kC "_law_ten" 648 [kI 223,kI 1,kI 0,kI 0,kI 3,.ref 336,.bool true,kI 181,.ref 337,.none,.none,.none,.ref 338,kI 651,kI 223] 652),
  (347,kF "_law_refused" iZ (.none) el 346),
  (346,kC "_law_refused" 654 [kI 226,kI 2,kI 0,kI 0,kI 3,.ref 341,.bool true,kI 181,.ref 342,.none,.ref 343,.ref 344,.ref 345,kI 661,kI 226] 662),
  (354,kF "law" pK (.none) el 353),
  (353,kC "law" 664 [kI 235,kI 1,kI 0,kI 0,kI 3,.ref 348,.bool true,kI 181,.ref 349,.none,.ref 350,.ref 351,.ref 352,kI 676,kI 235] 677),
  (83,kT [.int (0) 281,.int (1) 282] 0),
  (84,kT [.int (1) 284,.int (1) 285] 0),
  (24,kL "PairsError" [.type "ValueError"] [.ref 24,.type "ValueError",.type "Exception",.type "BaseException",.type "object"] 23 [.ref 37,.ref 49,.ref 61,.ref 73] #[some (.ref 15),none,some (.str "PairsError" 189),some (.str "PairsError" 197),some (.builtin "ValueError.__new__"),some (.bool true)]),
  (23,⟨.type "dict",none,.dict (List.toArray [kE P "__module__" 196 (.str "askedpairs.errors" 187),kE P "__firstlineno__" 200 (.int (2) 199),kE P "__static_attributes__" 201 (.ref 22),kE P "__weakref__" 203 (.ref 25),kE P "__doc__" 204 (.none)]) 3,#[]⟩),
  (37,kL "TooMany" [.ref 24] [.ref 37,.ref 24,.type "ValueError",.type "Exception",.type "BaseException",.type "object"] 36 [] #[some (.ref 28),none,some (.str "TooMany" 207),some (.str "TooMany" 215),some (.builtin "ValueError.__new__"),some (.bool true)]),
  (36,⟨.type "dict",none,.dict (List.toArray [kE P "__module__" 214 (.str "askedpairs.errors" 187),kE P "__firstlineno__" 218 (.int (4) 217),kE P "__static_attributes__" 219 (.ref 35),kE P "__doc__" 220 (.none)]) 2,#[]⟩),
  (49,kL "NoRise" [.ref 24] [.ref 49,.ref 24,.type "ValueError",.type "Exception",.type "BaseException",.type "object"] 48 [] #[some (.ref 40),none,some (.str "NoRise" 223),some (.str "NoRise" 231),some (.builtin "ValueError.__new__"),some (.bool true)]),
  (48,⟨.type "dict",none,.dict (List.toArray [kE P "__module__" 230 (.str "askedpairs.errors" 187),kE P "__firstlineno__" 234 (.int (6) 233),kE P "__static_attributes__" 235 (.ref 47),kE P "__doc__" 236 (.none)]) 2,#[]⟩),
  (61,kL "NotTwoSided" [.ref 24] [.ref 61,.ref 24,.type "ValueError",.type "Exception",.type "BaseException",.type "object"] 60 [] #[some (.ref 52),none,some (.str "NotTwoSided" 239),some (.str "NotTwoSided" 247),some (.builtin "ValueError.__new__"),some (.bool true)]),
  (60,⟨.type "dict",none,.dict (List.toArray [kE P "__module__" 246 (.str "askedpairs.errors" 187),kE P "__firstlineno__" 250 (.int (8) 249),kE P "__static_attributes__" 251 (.ref 59),kE P "__doc__" 252 (.none)]) 2,#[]⟩),
  (73,kL "NoText" [.ref 24] [.ref 73,.ref 24,.type "ValueError",.type "Exception",.type "BaseException",.type "object"] 72 [] #[some (.ref 64),none,some (.str "NoText" 255),some (.str "NoText" 263),some (.builtin "ValueError.__new__"),some (.bool true)]),
  (72,⟨.type "dict",none,.dict (List.toArray [kE P "__module__" 262 (.str "askedpairs.errors" 187),kE P "__firstlineno__" 266 (.int (10) 265),kE P "__static_attributes__" 267 (.ref 71),kE P "__doc__" 268 (.none)]) 2,#[]⟩)]
def kA:List Addr:=[3,82,81,91,90,98,97,105,104,112,111,119,118,126,125,131,130,136,135,143,142,150,149,155,154,160,159,165,164,172,171,179,178,186,185,193,192,200,199,207,206,214,213,221,220,228,227,235,234,242,241,249,248,256,255,261,260,268,267,275,274,280,279,285,284,292,291,297,296,304,303,311,310,316,315,323,322,328,327,335,334,340,339,347,346,354,353,83,84,24,23,37,36,49,48,61,60,73,72]
def kq:Program:={PySem.Challenge.pw_askedpairs_k21_by_all_answers with main:={PySem.Challenge.pw_askedpairs_k21_by_all_answers.main with body:=[top 1,top 2,top 3,top 4,top 5,top 6,top 8,top 9,top 10,top 11,top 12,top 13,top 14,top 15,top 17,top 18,top 20,top 21,top 23,top 24,top 25,top 26,top 27,top 29,top 30,top 31,top 32,top 33,top 34,top 35,top 36,top 37,top 38,top 39,top 40,top 41,top 42,top 43,top 44,top 45,top 46,top 47,top 48,top 49,top 50,top 51,top 52,top 53,top 54,top 55,top 56,top 57]}}
def kH:W.Hook:=W.kHook kK kA (fun _=>by kernel_rfl)
theorem left:W.LeftO PySem.Challenge.pw_askedpairs_k21_by_all_answers kq [] (fun s=>W.xlAt kq [] s&&W.recOk (W.RowW.records (W.OpenRow.toRowW (W.OpenLaw.row PySem.Challenge.rw_askedpairs_k21_by_all_answers))) s) (W.Hook.obs kH) (W.Hook.val kH) 5022:=fun w=>by kernel_rfl
end V21
namespace L2
open PySem PySem.Spec PyProof.Rows
theorem LD{α:Type _}{β:Type _}{o:Option α}{f:α→Option β}{b:β}(h:o.bind f=some b):∃a,o=some a∧f a=some b:=Option.bind_eq_some_iff.mp h
theorem LF{α:Type _}{β:Type _}{o:Option α}{f:α→β}{b:β}(h:o.map f=some b):∃a,o=some a∧f a=b:=Option.map_eq_some_iff.mp h
theorem LG{α:Type _}{l:List α}{i:Nat}{a:α}(h:l[i]?=some a):∃w:i<l.length,l[i]=a:=List.getElem?_eq_some_iff.mp h
theorem LH{α:Type _}{a:α}{s t:List α}(h:a∈s++t):a∈s∨a∈t:=List.mem_append.mp h
theorem LI{α:Type _}{β:Type _}{b:β}{f:α→β}{l:List α}(h:b∈l.map f):∃a,a∈l∧f a=b:=List.mem_map.mp h
theorem LJ{α:Type _}{a b:α}{l:List α}(h:a∈b::l):a=b∨a∈l:=List.mem_cons.mp h
theorem LK{α:Type _}{l:List α}{i:Nat}{a:α}(h:l[i]?=some a):a∈l:=List.mem_of_getElem? h
abbrev mV:=Sum Int Str
def zt:mV→Value→Bool
  | .inl k,v=>Value.isInt k v
  | .inr x,v=>Value.isStrOf x v
def Hu(w:World):mV→Int
  | .inl k=>hashInt k
  | .inr x=>hashStr w x
theorem bJ:∀{k:mV} {v:Value},zt k v=true→(∃i t,k=Sum.inl i∧v=Value.int i t)∨(∃x t,k=Sum.inr x∧v=Value.str x t)
  | .inl i,v,h=>by
    obtain⟨t,e⟩:=Value.isInt_shape (k:=i) (v:=v) h
    exact .inl ⟨i,t,rfl,e⟩
  | .inr x,v,h=>by
    obtain⟨t,e⟩:=Value.isStrOf_shape (x:=x) (v:=v) h
    exact .inr ⟨x,t,rfl,e⟩
theorem DV(a b:Int):decide ((Sum.inl a:mV)=Sum.inl b)=(a==b):=by
  by_cases e:a=b
  · subst e;simp
  · have h:¬(Sum.inl a:mV)=Sum.inl b:=fun q=>e (Sum.inl.inj q)
    rw [decide_eq_false h]
    exact(beq_eq_false_iff_ne.mpr e).symm
theorem DZ(a b:Str):decide ((Sum.inr a:mV)=Sum.inr b)=decide (a=b):=by
  by_cases e:a=b
  · subst e;simp
  · have h:¬(Sum.inr a:mV)=Sum.inr b:=fun q=>e (Sum.inr.inj q)
    rw [decide_eq_false h,decide_eq_false e]
theorem DX(a:Int)(b:Str):decide ((Sum.inl a:mV)=Sum.inr b)=false:=decide_eq_false (fun q=>nomatch q)
theorem DY(a:Str)(b:Int):decide ((Sum.inr a:mV)=Sum.inl b)=false:=decide_eq_false (fun q=>nomatch q)
def se(prog:Program)(w:World):PySem.KeyKind prog w mV where
  is:=zt
  hash:=Hu w
  inj:=fun v a b ha hb=>by
    rcases bJ ha with ⟨i,t,rfl,rfl⟩ | ⟨x,t,rfl,rfl⟩
    · rcases bJ hb with ⟨j,u,rfl,e⟩ | ⟨y,u,rfl,e⟩
      · injection e with e1 _;rw [e1]
      · exact nomatch e
    · rcases bJ hb with ⟨j,u,rfl,e⟩ | ⟨y,u,rfl,e⟩
      · exact nomatch e
      · injection e with e1 _;rw [e1]
  byValue:=fun k v h=>by
    rcases bJ h with ⟨i,t,rfl,rfl⟩ | ⟨x,t,rfl,rfl⟩<;>rfl
  pyHash:=fun hv h=>by
    rcases bJ hv with ⟨i,t,rfl,rfl⟩ | ⟨x,t,rfl,rfl⟩
    · exact wpAny_pyHash_int h
    · exact wpAny_pyHash_str h
  eqBool:=fun hu hv h=>by
    rcases bJ hu with ⟨i,t,rfl,rfl⟩ | ⟨x,t,rfl,rfl⟩
    · rcases bJ hv with ⟨j,u,rfl,rfl⟩ | ⟨y,u,rfl,rfl⟩
      · rw [DV] at h;exact wpAny_eqBool_int h
      · rw [DX] at h;exact SeqAt.EqAt.int_str i t y u _ _ _ _ h
    · rcases bJ hv with ⟨j,u,rfl,rfl⟩ | ⟨y,u,rfl,rfl⟩
      · rw [DY] at h;exact SeqAt.EqAt.str_int x t j u _ _ _ _ h
      · rw [DZ] at h;exact wpAny_eqBool_str h
  «strs»:=fun k x t v h=>by
    rcases bJ h with ⟨i,u,rfl,e⟩ | ⟨y,u,rfl,e⟩
    · exact nomatch e
    · injection e with e1 _
      subst e1
      cases v<;>rfl
inductive V where
  | non | bl (b:Bool) | int (i:Int) | str (x:Str) | byt (b:Array UInt8) | flt (b:UInt64) | ref (a:Addr) | ty (n:String)
  deriving DecidableEq
def bx:V→Value→Prop
  | .non,u=>u=Value.none
  | .bl b,u=>u=Value.bool b
  | .int i,u=>∃t,u=Value.int i t
  | .str x,u=>∃t,u=Value.str x t
  | .byt b,u=>∃t,u=Value.bytes b t
  | .flt b,u=>∃t,u=Value.float b t
  | .ref a,u=>u=Value.ref a
  | .ty n,u=>u=Value.type n
abbrev aU:List V→List Value→Prop:=Paired bx
theorem aU.length{xs:List V}{us:List Value}(r:aU xs us):xs.length=us.length:=Paired.length r
theorem aU.get:∀{xs:List V} {us:List Value} {i:Nat} {x:V},aU xs us→xs[i]?=some x→∃u,us[i]?=some u∧bx x u
  | _,_,_,_,.nil,e=>by simp at e
  | _,_,0,_,.cons r _,e=>by simp at e;subst e;exact⟨_,rfl,r⟩
  | _,_,i+1,x,.cons _ t,e=>by
    obtain⟨u,h1,h2⟩:=aU.get (i:=i) (x:=x) t (by simpa using e)
    exact⟨u,by simpa using h1,h2⟩
theorem aU.set{x:V}{u:Value}(r:bx x u):∀{xs:List V} {us:List Value} (i:Nat),aU xs us→aU (xs.set i x) (us.set i u)
  | _,_,_,.nil=>.nil
  | _,_,0,.cons _ t=>.cons r t
  | _,_,i+1,.cons q t=>.cons q (aU.set r i t)
theorem aU.append:∀{xs ys:List V} {us ws:List Value},aU xs us→aU ys ws→aU (xs++ys) (us++ws)
  | _,_,_,_,.nil,s=>s
  | _,_,_,_,.cons r t,s=>.cons r (aU.append t s)
theorem aU.take:∀{xs:List V} {us:List Value} (n:Nat),aU xs us→aU (xs.take n) (us.take n)
  | _,_,0,_=>.nil
  | _,_,_+1,.nil=>.nil
  | _,_,n+1,.cons r t=>.cons r (aU.take n t)
theorem aU.drop:∀{xs:List V} {us:List Value} (n:Nat),aU xs us→aU (xs.drop n) (us.drop n)
  | _,_,0,r=>r
  | _,_,_+1,.nil=>.nil
  | _,_,n+1,.cons _ t=>aU.drop n t
def Fw:Option V→Option Value→Prop
  | some v,some u=>bx v u
  | none,none=>True
  | _,_=>False
def KV{κ:Type}:List (κ × V)→List (κ × Value)→Prop:=Paired fun(p:κ × V) (q:κ × Value)=>p.1=q.1∧bx p.2 q.2
def kV:mV→V
  | .inl i=>.int i
  | .inr x=>.str x
inductive HO where
  /-- a list -/
  | lst (xs:List V)
  /-- a tuple (never changes) -/
  | tup (xs:List V)
  /-- a dict whose keys are ints and texts; one whose keys are tuples of ints and texts (the empty one is both) -/
  | dK (kvs:List (mV × V)) | dT (kvs:List (List mV × V))
  /-- a set of ints: its members, its size -/
  | set (S:Int→Bool) (n:Nat)
  /-- an instance of the class at C, its dict at dx, its attributes -/
  | ins (C dx:Addr) (fs:List (Str × V))
  /-- the dict of the instance at x -/
  | own (x:Addr)
  /-- the dict of an exception -/
  | xd (fs:List (Str × V))
  /-- a bound method, f of x -/
  | met (f x:Addr)
  /-- a range object lo, lo + 1, .. below hi -/
  | rng (lo hi:Int)
  /-- a thing that is known to the object (the script; a dict while a loop walks it): read, never written while it is so -/
  | frz (o:Obj) (u:HO)
  /-- a code object's table -/
  | tbl (ps:Array Value)
  /-- any other thing, by what is true of its one object (a def of one's own: SetO a S n := HO.ext fun h => ..) -/
  | ext (φ:Heap→Prop)
abbrev Hp:=Addr→Option HO
def a_(H:Hp)(a:Addr)(o:HO):Hp:=fun b=>if b=a then some o else H b
theorem az{H:Hp}{a:Addr}{o:HO}:a_ H a o a=some o:=by unfold a_;rw [if_pos rfl]
theorem ar{H:Hp}{a b:Addr}{o:HO}(h:b≠a):a_ H a o b=H b:=by unfold a_;rw [if_neg h]
theorem eN{H:Hp}{a b:Addr}{o:HO}(h:H a=some o)(h':H b=none):a≠b:=by
  intro e;subst e;rw [h] at h';cases h'
def kN(h:Heap)(a:Addr)(items:Array Value):Prop:=∃o,h.get? a=some o∧o.cls=.type "tuple"∧∃n,o.data=.seq items n∧o.dict=none
theorem kN.tup{h:Heap}{a:Addr}{items:Array Value}(x:kN h a items):IsTup h a items:=let ⟨o,ho,hc,n,hd,_⟩:=x;⟨o,ho,hc,n,hd⟩
theorem kN.new(h:Heap)(items:Array Value):kN (h.push {cls:=.type "tuple",data:=.seq items}) h.objs.size items:=⟨_,Heap.get?_push_size _ rfl,rfl,_,rfl,rfl⟩
section
variable(P:Program)(w:World)
def dX(H:Hp)(h:Heap)(a:Addr):HO→Prop
  | .lst xs=>xs.length≤sizeLine∧∃(its:List Value) (n:Nat),aU xs its∧h.get? a=some {cls:=.type "list",data:=.seq its.toArray n}
  | .tup xs=>xs.length≤sizeLine∧∃its:List Value,aU xs its∧kN h a its.toArray
  | .dK kvs=>kvs.length≤sizeLine∧(a==sysModules)=false∧∃vs,KV kvs vs∧h.DictOf (se P w) a vs
  | .dT kvs=>kvs.length≤sizeLine∧(a==sysModules)=false∧∃xs:List (List mV × Addr × Value),
      Paired (fun(p:List mV × V) (q:List mV × Addr × Value)=>p.1=q.1∧H q.2.1=some (.tup (p.1.map kV))∧bx p.2 q.2.2) kvs xs∧
      ∃o es ep,h.get? a=some o∧o.ExactDict∧o.data=.dict es ep∧es.toList=xs.map (entryOfKey (tupleKind (se P w)))∧(xs.map (·.1)).Nodup
  | .set S n=>h.SetOf (intKind P w) a S n
  | .ins C dx fs=>H dx=some (.own a)∧fs.length≤1000∧dx≠a∧h.get? a=some (PySem.W.instObj C dx)∧
      ∃mA,h.Ns1 dx mA∧(∀f,Fw (fs.lookup f) (mA f))∧PySem.Within mA (fs.map (·.1))
  | .own _=>∃o,h.get? a=some o
  | .xd fs=>∃mA,h.Ns1 a mA∧∀f,Fw (fs.lookup f) (mA f)
  | .rng lo hi=>∃t u v,h.get? a=some {cls:=.type "range",data:=.fields #[.int lo t,.int hi u,.int 1 v]}
  | .frz o u=>h.get? a=some o∧dX H h a u
  | .tbl ps=>h.get? a=some {cls:=.none,data:=.fields ps}
  | .met f x=>h.get? a=some (PySem.W.methodObj (.ref f) (.ref x))
  | .ext φ=>φ h∧(∃o,h.get? a=some o)∧∀h1 h2:Heap,φ h1→(∀o,h1.get? a=some o→h2.get? a=some o)→φ h2
def nP(H:Hp)(h:Heap):Prop:=∀a o,H a=some o→dX P w H h a o
end
section
variable{P:Program}{w:World}{H H':Hp}{h h':Heap}{a:Addr}{o:HO}
theorem dX.lt(x:dX P w H h a o):a < h.objs.size:=by
  cases o with
  | lst xs=>obtain⟨_,_,_,_,e⟩:=x;exact Heap.lt_size e
  | tup xs=>obtain⟨_,_,_,p⟩:=x;exact p.tup.lt
  | dK kvs=>obtain⟨_,_,_,_,o,_,_,e,_⟩:=x;exact Heap.lt_size e
  | dT kvs=>obtain⟨_,_,_,_,o,_,_,e,_⟩:=x;exact Heap.lt_size e
  | set S n=>obtain⟨o,_,_,_,e,_⟩:=x;exact Heap.lt_size e
  | ins C dx fs=>obtain⟨_,_,_,e,_⟩:=x;exact Heap.lt_size e
  | own y=>obtain⟨_,e⟩:=x;exact Heap.lt_size e
  | xd fs=>obtain⟨_,⟨_,_,_,e,_⟩,_⟩:=x;exact Heap.lt_size e
  | rng lo hi=>obtain⟨_,_,_,e⟩:=x;exact Heap.lt_size e
  | frz ob u=>obtain⟨e,_⟩:=x;exact Heap.lt_size e
  | tbl ps=>exact Heap.lt_size (show h.get? a=some _ from x)
  | met f y=>exact Heap.lt_size (show h.get? a=some _ from x)
  | ext φ=>obtain⟨_,⟨_,e⟩,_⟩:=x;exact Heap.lt_size e
theorem Paired.mapP{α β:Type}{F G:α→β→Prop}:∀{l₁:List α} {l₂:List β},Paired F l₁ l₂→(∀a b,F a b→G a b)→Paired G l₁ l₂
  | _,_,.nil,_=>.nil
  | _,_,.cons r t,f=>.cons (f _ _ r) (Paired.mapP t f)
theorem dX.stay(x:dX P w H h a o)(k:∀b u,(b=a∨H b=some (.own a))→h.get? b=some u→h'.get? b=some u)
    (ho:∀b,H b=some (.own a)→H' b=some (.own a))(ht:∀b xs,H b=some (.tup xs)→H' b=some (.tup xs)):dX P w H' h' a o:=by
  induction o with
  | lst xs=>obtain⟨z,its,n,r,e⟩:=x;exact⟨z,its,n,r,k _ _ (.inl rfl) e⟩
  | tup xs=>obtain⟨z,its,r,ob,e,c⟩:=x;exact⟨z,its,r,ob,k _ _ (.inl rfl) e,c⟩
  | dK kvs=>obtain⟨z,y,vs,r,ob,es,ep,e,c⟩:=x;exact⟨z,y,vs,r,ob,es,ep,k _ _ (.inl rfl) e,c⟩
  | dT kvs=>
    obtain⟨z,y,xs,r,ob,es,ep,e,c⟩:=x
    exact⟨z,y,xs,Paired.mapP r fun p q z=>⟨z.1,ht _ _ z.2.1,z.2.2⟩,ob,es,ep,k _ _ (.inl rfl) e,c⟩
  | set S n=>obtain⟨ob,es,ep,t,e,c⟩:=x;exact⟨ob,es,ep,t,k _ _ (.inl rfl) e,c⟩
  | ins C dx fs=>
    obtain⟨d,z,ne,e,mA,⟨od,es,ep,e2,c⟩,r⟩:=x
    exact⟨ho _ d,z,ne,k _ _ (.inl rfl) e,mA,⟨od,es,ep,k _ _ (.inr d) e2,c⟩,r⟩
  | own y=>obtain⟨ob,e⟩:=x;exact⟨ob,k _ _ (.inl rfl) e⟩
  | xd fs=>obtain⟨mA,⟨od,es,ep,e,c⟩,r⟩:=x;exact⟨mA,⟨od,es,ep,k _ _ (.inl rfl) e,c⟩,r⟩
  | rng lo hi=>obtain⟨t,u,v,e⟩:=x;exact⟨t,u,v,k _ _ (.inl rfl) e⟩
  | frz ob u ih=>obtain⟨e,q⟩:=x;exact⟨k _ _ (.inl rfl) e,ih q⟩
  | tbl ps=>
    have e:h.get? a=some {cls:=.none,data:=.fields ps}:=x
    show h'.get? a=some {cls:=.none,data:=.fields ps}
    exact k a _ (.inl rfl) e
  | met f y=>
    have e:h.get? a=some (PySem.W.methodObj (.ref f) (.ref y)):=x
    show h'.get? a=some (PySem.W.methodObj (.ref f) (.ref y))
    exact k a _ (.inl rfl) e
  | ext φ=>obtain⟨p,⟨o,e⟩,st⟩:=x;exact⟨st _ _ p fun o q=>k _ _ (.inl rfl) q,⟨o,k _ _ (.inl rfl) e⟩,st⟩
theorem nP.lt(x:nP P w H h)(e:H a=some o):a < h.objs.size:=(x a o e).lt
theorem nP.fresh(x:nP P w H h)(e:h.objs.size≤a):H a=none:=by
  cases q:H a with
  | none=>rfl
  | some u=>exact absurd (Nat.lt_of_lt_of_le (x.lt q) e) (Nat.lt_irrefl _)
theorem nP.kept(x:nP P w H h)(k:∀b u,h.get? b=some u→h'.get? b=some u):nP P w H h':=fun a o e=>
  (x a o e).stay (fun b u _ q=>k b u q) (fun _ q=>q) fun _ _ q=>q
theorem nP.laid(x:nP P w H h)(k:∀b u,h.get? b=some u→h'.get? b=some u)(hp:h.objs.size≤a)(new:dX P w (a_ H a o) h' a o):nP P w (a_ H a o) h':=fun b u e=>by
  have hn:=x.fresh hp
  by_cases hb:b=a
  · subst hb;rw [az] at e;cases e;exact new
  · rw [ar hb] at e
    exact(x b u e).stay (fun c v _ q=>k c v q) (fun c q=>by rw [ar (eN q hn)];exact q) fun c xs q=>by rw [ar (eN q hn)];exact q
end
def Rd(H:Hp)(a:Addr)(u:HO):Prop:=H a=some u∨∃o,H a=some (.frz o u)
theorem Rd.ok{P:Program}{w:World}{H:Hp}{h:Heap}{a:Addr}{u:HO}(r:Rd H a u)(x:nP P w H h):dX P w H h a u:=by
  rcases r with r | ⟨o,r⟩
  · exact x a u r
  · obtain⟨_,q⟩:=x a _ r
    exact q
def GW:Option HO→Prop
  | some (.lst _)=>True
  | some (.dK _)=>True
  | some (.dT _)=>True
  | some (.set _ _)=>True
  | some (.ins _ _ _)=>True
  | some (.ext _)=>True
  | _=>False
section
variable{P:Program}{w:World}{H:Hp}{h h':Heap}{x e:Addr}{o':HO}
theorem nP.write(ok:nP P w H h)(mu:GW (H x))(he:e=x∨H e=some (.own x))(k:∀b u,b≠e→h.get? b=some u→h'.get? b=some u)(heo:∃u,h'.get? e=some u)
    (new:dX P w (a_ H x o') h' x o'):nP P w (a_ H x o') h':=fun b u q=>by
  have nown:∀c y,H c=some (.own y)→c≠x:=fun c y r z=>by subst z;rw [r] at mu;exact mu
  have ntup:∀c xs,H c=some (.tup xs)→c≠x:=fun c xs r z=>by subst z;rw [r] at mu;exact mu
  by_cases hb:b=x
  · subst hb;rw [az] at q;cases q;exact new
  · rw [ar hb] at q
    by_cases hbe:b=e
    · have q':H b=some (.own x):=by
        rcases he with z | z
        · exact absurd (hbe.trans z) hb
        · rw [hbe];exact z
      rw [q] at q';cases q'
      obtain⟨v,hv⟩:=heo
      exact⟨v,by rw [hbe];exact hv⟩
    · refine(ok b u q).stay (fun c v hc r=>k c v ?_ r) (fun c r=>by rw [ar (nown c b r)];exact r) fun c xs r=>by rw [ar (ntup c xs r)];exact r
      rcases hc with rfl | hc
      · exact hbe
      · rintro rfl
        rcases he with z | z
        · exact nown c b hc z
        · rw [hc] at z;cases z;exact hb rfl
end
structure Un (fs ex:List Addr) (H H':Hp) (h h':Heap):Prop where
  keep:∀b o,h.get? b=some o→H b=none→b∉fs→b∉ex→h'.get? b=some o
  slot:∀b o,h.get? b=some o→H b=none→b∈fs→b∉ex→∃sl,h'.get? b=some {o with slots:=sl}
  free:∀b o,h.get? b=some o→H b=none→b∉ex→H' b=none
  there:∀b o,h.get? b=some o→b∉ex→∃o',h'.get? b=some o'
  tups:∀b xs,H b=some (.tup xs)→H' b=some (.tup xs)
  frzs:∀b o u,H b=some (.frz o u)→H' b=some (.frz o u)
  tbls:∀b ps,H b=some (.tbl ps)→∃more,H' b=some (.tbl (ps++more))
section
variable{fs fs' ex ex':List Addr}{H H1 H2:Hp}{h h1 h2 h':Heap}{a x e:Addr}{o:HO}
theorem Un.any(u:Un fs ex H H1 h h1){b:Addr}{ob:Obj}(q:h.get? b=some ob)(n:H b=none)(hx:b∉ex):∃sl,h1.get? b=some {ob with slots:=sl}:=by
  by_cases hb:b∈fs
  · exact u.slot b ob q n hb hx
  · exact⟨ob.slots,u.keep b ob q n hb hx⟩
theorem Un.kept(k:∀b u,h.get? b=some u→h'.get? b=some u):Un fs ex H H h h':=
  ⟨fun b ob q _ _ _=>k b ob q,fun b ob q _ _ _=>⟨ob.slots,k b ob q⟩,fun _ _ _ n _=>n,fun b ob q _=>⟨ob,k b ob q⟩,fun _ _ q=>q,fun _ _ _ q=>q,fun _ ps q=>⟨#[],by rw [q];simp⟩⟩
theorem Un.refl:Un fs ex H H h h:=Un.kept fun _ _ q=>q
theorem Un.laid(k:∀b u,h.get? b=some u→h'.get? b=some u)(hp:h.objs.size≤a)(hn:H a=none):Un fs ex H (a_ H a o) h h' where
  keep:=fun b u q _ _ _=>k b u q
  slot:=fun b u q _ _ _=>⟨u.slots,k b u q⟩
  free:=fun b u q n _=>by rw [ar (Nat.ne_of_lt (Nat.lt_of_lt_of_le (Heap.lt_size q) hp))];exact n
  there:=fun b u q _=>⟨u,k b u q⟩
  tups:=fun b xs q=>by rw [ar (eN q hn)];exact q
  frzs:=fun b u xs q=>by rw [ar (eN q hn)];exact q
  tbls:=fun b ps q=>⟨#[],by rw [ar (eN q hn),q];simp⟩
theorem Un.write(mu:GW (H x))(he:e=x∨H e=some (.own x))(k:∀b u,b≠e→h.get? b=some u→h'.get? b=some u)(heo:∃u,h'.get? e=some u):Un fs ex H (a_ H x o) h h':=by
  have hx:∀b,H b=none→b≠x:=fun b n z=>by subst z;rw [n] at mu;exact mu
  have hb:∀b,H b=none→b≠e:=fun b n z=>by
    subst z
    rcases he with r | r
    · exact hx b n r
    · rw [n] at r;cases r
  have hm:∀b u,H b=some u→¬GW (some u)→b≠x:=fun b u q nm z=>by subst z;rw [q] at mu;exact nm mu
  refine⟨fun b u q n _ _=>k b u (hb b n) q,fun b u q n _ _=>⟨u.slots,k b u (hb b n) q⟩,fun b u q n _=>by rw [ar (hx b n)];exact n,fun b u q _=>?_,
    fun b xs q=>by rw [ar (hm b _ q fun z=>z)];exact q,fun b u xs q=>by rw [ar (hm b _ q fun z=>z)];exact q,fun b ps q=>⟨#[],by rw [ar (hm b _ q fun z=>z),q];simp⟩⟩
  by_cases hbe:b=e
  · subst hbe;exact heo
  · exact⟨u,k b u hbe q⟩
end
def G4(h:Heap)(H:Hp):List Addr:=(List.range h.objs.size).filter fun a=>(H a).isSome
def rX(h:Heap)(H:Hp):Heap:=PySem.W.hideAll h (G4 h H)
theorem xR(h:Heap)(H:Hp):(rX h H).objs.size=h.objs.size:=PySem.W.hideAll_size _ _
theorem zi{h:Heap}{H:Hp}{b:Addr}{o:Obj}(e:h.get? b=some o)(n:H b=none):(rX h H).get? b=some o:=
  PySem.W.hideAll_get _ e fun hm=>by
    have q:(H b).isSome=true:=(List.mem_filter.mp hm).2
    rw [n] at q;simp at q
theorem BD{h:Heap}{H:Hp}{b:Addr}{o:Obj}(e:(rX h H).get? b=some o):h.get? b=some o∧H b=none:=by
  have e':h.get? b=some o:=PySem.W.of_hideAll (G4 h H) e
  refine⟨e',?_⟩
  cases q:H b with
  | none=>rfl
  | some x=>
    have hm:b∈G4 h H:=List.mem_filter.mpr ⟨List.mem_range.mpr (Heap.lt_size e'),by simp [q]⟩
    have z:(rX h H).get? b=none:=PySem.W.hideAll_none (G4 h H) hm
    rw [z] at e;cases e
def rJ(g h:Heap)(L:Addr):List (Addr × Obj):=(List.range h.objs.size).filterMap fun a=>if a=L∨(g.get? a).isSome=true then none else(h.get? a).map fun o=>(a,o)
theorem pe{g h:Heap}{L:Addr}{p:Addr × Obj}(hp:p∈rJ g h L):p.1≠L∧g.get? p.1=none∧h.get? p.1=some p.2:=by
  obtain⟨b,_,e⟩:=List.mem_filterMap.mp hp
  split at e
  · cases e
  · rename_i hn
    cases q:h.get? b with
    | none=>rw [q] at e;simp at e
    | some u=>
      rw [q] at e
      simp only [Option.map_some,Option.some.injEq] at e
      subst e
      refine⟨fun z=>hn (.inl z),?_,q⟩
      show g.get? b=none
      cases r:g.get? b with
      | none=>rfl
      | some v=>exact(hn (.inr (by simp [r]))).elim
def fL(g h:Heap)(L d:Addr):List (Addr × Obj):=(rJ g h L).filter fun p=>decide (p.1≠d)
theorem zF{g h:Heap}{L:Addr}:News g L h (rJ g h L):=fun p hp=>let ⟨a,b,c⟩:=pe hp;⟨c,a,b⟩
structure Mod (K:⇑0) (mg:Str→Option Value) (base:Heap):Prop where
  kin:K.In base
  glob:base.Ns mainGlobals mg
  blt:∃mb,base.Ns builtinsNs mb∧∀x:Str,x≠"__name__"→mb x=bootBuiltins x
  nolimit:base.NoLimit
structure Cx where
  prog:Program
  w:World
  K:⇑0
  mg:Str→Option Value
  base:Heap
  A:Around
  N:List Str
  s₀:Shared
  H₀:Hp
  env:Env
  outer:List Env
  stack:List Env
  ex:List Addr
  fn:Str→Bool
  calm:Bool
  pn:List (Addr × Obj)
  xe:Value→Shared→Prop
def iN(l:List Env):List Addr:=l.filterMap (·.frame)
abbrev Cx.fs(X:Cx):List Addr:=iN X.outer
def yK(sc:Scope)(x:Str):Prop:=sc.names.lookup x=some .local∨sc.names.lookup x=some .cell∨sc.names.lookup x=some .free
def DC(sc:Scope)(x:Str):Prop:=sc.names.lookup x=some .local∨sc.names.lookup x=some .cell
def Hb(env:Env)(h:Heap)(m:Str→Option Value)(x:Str)(u:Value):Prop:=
  (env.kindOf x=some .local∧m x=some u)∨((env.kindOf x=some .cell∨env.kindOf x=some .free)∧∃c,env.cells.lookup x=some c∧h.IsCell c (some u))
structure Cx.Ok (X:Cx):Prop where
  mod:Mod X.K X.mg X.base
  kind:X.env.scope.kind=.function
  glob:X.env.globals=mainGlobals
  blt:X.env.builtins=builtinsNs
  above:X.s₀.heap.objs.size≤X.env.locals
  inj:∀x y c,X.env.cells.lookup x=some c→X.env.cells.lookup y=some c→x=y
  has:∀x,(X.env.kindOf x=some .cell∨X.env.kindOf x=some .free)→∃c,X.env.cells.lookup x=some c
  cab:∀x c,X.fn x=true→X.env.cells.lookup x=some c→X.s₀.heap.objs.size≤c
  hd:X.calm=true→X.A.handled=none
  frames:X.A.frames=some X.stack
  stk:X.stack=X.outer∨(X.stack=X.env::X.outer∧X.env.frame=some X.env.locals)
  exf:∀b∈X.ex,b≠X.env.locals∧∀x c,X.env.cells.lookup x=some c→c≠b
  bs:∀b o,X.base.get? b=some o→X.s₀.heap.get? b=some o∧X.H₀ b=none
  bsz:X.base.objs.size≤X.s₀.heap.objs.size
  noex:∀b o,X.base.get? b=some o→b∉X.ex
  exfs:∀b∈X.ex,b∉X.fs
  funs:X.s₀.heap.FunFrames X.base X.outer
  frf:∀b∈X.fs,X.H₀ b=none
structure aF (X:Cx) (pins:List (Addr × Obj)) (σ:List (Option V)) (H:Hp) (s:Shared):Prop where
  ok:X.Ok
  os:s.os=X.s₀.os
  bare:AllBare s.gens
  base:Un X.fs X.ex X.H₀ H X.s₀.heap s.heap
  loc:∃m,s.heap.Ns X.env.locals m∧∀(i:Nat) (x:Str) (v:V),X.N[i]?=some x→σ[i]?=some (some v)→yK X.env.scope x→∃u,bx v u∧Hb X.env s.heap m x u
  cell:∀x c,X.env.cells.lookup x=some c→∃v,s.heap.IsCell c v
  free:H X.env.locals=none
  freeC:∀x c,X.env.cells.lookup x=some c→H c=none
  pin:∀p∈X.pn++pins,s.heap.get? p.1=some p.2∧H p.1=none∧p.1≠X.env.locals∧p.1∉X.fs∧∀v,p.2.data≠.cell v
  hok:nP X.prog X.w H s.heap
  len:σ.length=X.N.length
section
variable{X:Cx}{pins:List (Addr × Obj)}{σ:List (Option V)}{H H':Hp}{s:Shared}{h':Heap}
theorem Cx.Ok.nofr(ok:X.Ok){b:Addr}{o:Obj}(e:X.base.get? b=some o):b∉X.fs:=fun hb=>by
  have:=(ok.funs.mem hb).1
  rw [e] at this;cases this
theorem aF.bs(I:aF X pins σ H s):∀b o,X.base.get? b=some o→s.heap.get? b=some o∧H b=none:=fun b o e=>
  ⟨I.base.keep b o (I.ok.bs b o e).1 (I.ok.bs b o e).2 (I.ok.nofr e) (I.ok.noex b o e),I.base.free b o (I.ok.bs b o e).1 (I.ok.bs b o e).2 (I.ok.noex b o e)⟩
theorem aF.bk(I:aF X pins σ H s):∀b o,X.base.get? b=some o→s.heap.get? b=some o:=fun b o e=>(I.bs b o e).1
theorem aF.mod(I:aF X pins σ H s):Mod X.K X.mg X.base:=I.ok.mod
theorem aF.kIn(I:aF X pins σ H s):X.K.In s.heap:=I.ok.mod.kin.keeps I.bk
theorem aF.fr(I:aF X pins σ H s):∃m,Fr X.base X.env.locals s.heap m:=
  let ⟨m,hn,_⟩:=I.loc
  ⟨m,hn,I.bk,Nat.le_trans I.ok.bsz I.ok.above⟩
theorem aF.lt(I:aF X pins σ H s):X.env.locals < ↑s:=let ⟨_,hn,_⟩:=I.loc;hn.lt
theorem aF.sz(I:aF X pins σ H s):X.s₀.heap.objs.size≤↑s:=Nat.le_trans I.ok.above (Nat.le_of_lt I.lt)
theorem aF.nofs(I:aF X pins σ H s){a:Addr}(h:↑s≤a):a∉X.fs:=fun hb=>by
  obtain⟨_,o,ho,_⟩:=I.ok.funs.mem hb
  exact absurd (Nat.lt_of_lt_of_le (Heap.lt_size ho) (Nat.le_trans I.sz h)) (Nat.lt_irrefl _)
theorem aF.cne(I:aF X pins σ H s):∀x c,X.env.cells.lookup x=some c→c≠X.env.locals:=fun x c e z=>by
  obtain⟨v,o,ho,hd⟩:=I.cell x c e
  obtain⟨m,⟨o',es,ep,ho',hd',_⟩,_⟩:=I.loc
  rw [z,ho'] at ho;cases ho;rw [hd'] at hd;cases hd
theorem aF.funs(I:aF X pins σ H s):s.heap.FunFrames X.base X.outer:=by
  have all:∀(l:List Env),(∀b∈iN l,b∈X.fs)→X.s₀.heap.FunFrames X.base l→s.heap.FunFrames X.base l:=by
    intro l
    induction l with
    | nil=>intro _ _;trivial
    | cons env r ih=>
      intro hs hl
      obtain⟨hk,⟨L,o,hf,hn,ho,hd⟩,hr⟩:=hl
      have hL:L∈X.fs:=hs L (by unfold iN;rw [List.filterMap_cons,hf];exact List.mem_cons_self)
      obtain⟨sl,e⟩:=I.base.slot L o ho (I.ok.frf L hL) hL fun z=>I.ok.exfs L z hL
      exact⟨hk,⟨L,_,hf,hn,e,hd⟩,ih (fun b hb=>hs b (by unfold iN;rw [List.filterMap_cons,hf];exact List.mem_cons_of_mem _ hb)) hr⟩
  exact all X.outer (fun _ hb=>hb) I.ok.funs
theorem aF.stack(I:aF X pins σ H s):s.heap.FunFrames X.base X.stack:=by
  rcases I.ok.stk with e | ⟨e,hf⟩
  · rw [e];exact I.funs
  · rw [e]
    obtain⟨m,hn,_⟩:=I.loc
    refine .cons (by rw [I.ok.kind];decide) hf hn ?_ I.funs
    exact Heap.get?_none_of_le (Nat.le_trans I.ok.bsz I.ok.above)
theorem aF.stkSub(I:aF X pins σ H s):∀b∈iN X.stack,b∈X.env.locals::X.fs:=fun b hb=>by
  rcases I.ok.stk with e | ⟨e,hf⟩
  · rw [e] at hb;exact List.mem_cons_of_mem _ hb
  · rw [e] at hb
    unfold iN at hb
    rw [List.filterMap_cons,hf] at hb
    exact hb
theorem aF.stkFree(I:aF X pins σ H s):∀b∈iN X.stack,H b=none:=fun b hb=>by
  rcases LJ (I.stkSub b hb) with e | hb
  · rw [e];exact I.free
  · obtain⟨_,o,ho,_⟩:=I.ok.funs.mem hb
    exact I.base.free b o ho (I.ok.frf b hb) fun z=>I.ok.exfs b z hb
theorem aF.step{g':Array GenState}{t':Nat}{d':Drawn}{ch:List Addr}(I:aF X pins σ H s)
    (hch:∀b∈ch,(b∈X.ex∨X.s₀.heap.objs.size≤b)∧b≠X.env.locals∧(∀x c,X.env.cells.lookup x=some c→c≠b)∧∀p∈X.pn++pins,p.1≠b)
    (keep:∀b o,b≠X.env.locals→b∉X.fs→b∉ch→s.heap.get? b=some o→H b=none→h'.get? b=some o)
    (slot:∀b o,b≠X.env.locals→b∈X.fs→b∉ch→s.heap.get? b=some o→H b=none→∃sl,h'.get? b=some {o with slots:=sl})(free:∀b o,b∉ch→s.heap.get? b=some o→H b=none→H' b=none)
    (there:∀b o,b∉ch→s.heap.get? b=some o→∃o',h'.get? b=some o')
    (tups:∀b xs,H b=some (.tup xs)→H' b=some (.tup xs))(frzs:∀b o u,H b=some (.frz o u)→H' b=some (.frz o u))(tbls:∀b ps,H b=some (.tbl ps)→∃more,H' b=some (.tbl (ps++more)))
    (ns:∀m,s.heap.Ns X.env.locals m→h'.Ns X.env.locals m)(hok:nP X.prog X.w H' h')(hg:AllBare g'):
    aF X pins σ H' {s with heap:=h',gens:=g',drawn:=d',toks:=t'}:=by
  have neL:∀b o,X.s₀.heap.get? b=some o→b≠X.env.locals:=fun b o e=>Nat.ne_of_lt (Nat.lt_of_lt_of_le (Heap.lt_size e) I.ok.above)
  have neC:∀b o,X.s₀.heap.get? b=some o→b∉X.ex→b∉ch:=fun b o e hx hb=>by
    rcases(hch b hb).1 with z | z
    · exact hx z
    · exact absurd (Nat.lt_of_lt_of_le (Heap.lt_size e) z) (Nat.lt_irrefl _)
  have cellK:∀x c,X.env.cells.lookup x=some c→∀v,s.heap.IsCell c v→h'.IsCell c v:=fun x c e v ⟨o,ho,hd⟩=>by
    have nch:c∉ch:=fun z=>(hch c z).2.2.1 x c e rfl
    by_cases hc:c∈X.fs
    · obtain⟨sl,q⟩:=slot c o (I.cne x c e) hc nch ho (I.freeC x c e)
      exact⟨_,q,hd⟩
    · exact⟨o,keep c o (I.cne x c e) hc nch ho (I.freeC x c e),hd⟩
  refine⟨I.ok,I.os,hg,⟨fun b o e n hb hx=>?_,fun b o e n hb hx=>?_,fun b o e n hx=>?_,fun b o e hx=>?_,fun b xs e=>tups b xs (I.base.tups b xs e),fun b o xs e=>frzs b o xs (I.base.frzs b o xs e),fun b ps e=>?_⟩,?_,fun x c e=>?_,?_,fun x c e=>?_,fun p hp=>?_,hok,I.len⟩
  · exact keep b o (neL b o e) hb (neC b o e hx) (I.base.keep b o e n hb hx) (I.base.free b o e n hx)
  · obtain⟨sl,e1⟩:=I.base.slot b o e n hb hx
    obtain⟨sl',e2⟩:=slot b _ (neL b o e) hb (neC b o e hx) e1 (I.base.free b o e n hx)
    exact⟨sl',e2⟩
  · obtain⟨o',e1⟩:=I.base.there b o e hx
    exact free b o' (neC b o e hx) e1 (I.base.free b o e n hx)
  · obtain⟨o',e1⟩:=I.base.there b o e hx
    exact there b o' (neC b o e hx) e1
  · obtain⟨m1,e1⟩:=I.base.tbls b ps e
    obtain⟨m2,e2⟩:=tbls b _ e1
    exact⟨m1++m2,by rw [e2,Array.append_assoc]⟩
  · obtain⟨m,hn,hl⟩:=I.loc
    refine⟨m,ns m hn,fun i x v e1 e2 e3=>?_⟩
    obtain⟨u,r,l⟩:=hl i x v e1 e2 e3
    refine⟨u,r,?_⟩
    rcases l with l | ⟨k,c,e,z⟩
    · exact .inl l
    · exact .inr ⟨k,c,e,cellK x c e _ z⟩
  · obtain⟨v,z⟩:=I.cell x c e
    exact⟨v,cellK x c e v z⟩
  · obtain⟨m,⟨o,_,_,ho,_⟩,_⟩:=I.loc
    exact free _ o (fun z=>(hch _ z).2.1 rfl) ho I.free
  · obtain⟨v,o,ho,hd⟩:=I.cell x c e
    exact free c o (fun z=>(hch c z).2.2.1 x c e rfl) ho (I.freeC x c e)
  · obtain⟨e,n,ne,nf,d⟩:=I.pin p hp
    have nch:p.1∉ch:=fun z=>(hch p.1 z).2.2.2 p hp rfl
    exact⟨keep p.1 p.2 ne nf nch e n,free p.1 p.2 nch e n,ne,nf,d⟩
theorem aF.un{t':Nat}(I:aF X pins σ H s)(u:Un X.fs [] H H' s.heap h')(hok:nP X.prog X.w H' h'):aF X pins σ H' {s with heap:=h',toks:=t'}:=by
  obtain⟨m,⟨o,es,ep,ho,r⟩,_⟩:=id I.loc
  obtain⟨sl,hL⟩:=u.any ho I.free ↥1
  exact I.step (g':=s.gens) (d':=s.drawn) (ch:=[]) (fun _ z=>nomatch z) (fun b o _ hb _ e n=>u.keep b o e n hb ↥1) (fun b o _ hb _ e n=>u.slot b o e n hb ↥1) (fun b o _ e n=>u.free b o e n ↥1) (fun b o _ e=>u.there b o e ↥1) u.tups u.frzs u.tbls (fun m' hm=>by
    obtain⟨o',es',ep',ho',r'⟩:=hm
    rw [ho] at ho';cases ho'
    exact⟨_,es',ep',hL,r'⟩) hok I.bare
theorem aF.call{g':Array GenState}{t':Nat}{d':Drawn}{ch:List Addr}(I:aF X pins σ H s)(u:Un (iN X.stack) ch H H' s.heap h')(hok:nP X.prog X.w H' h')(hg:AllBare g')
    (hch:∀b∈ch,(b∈X.ex∨X.s₀.heap.objs.size≤b)∧b≠X.env.locals∧(∀x c,X.env.cells.lookup x=some c→c≠b)∧∀p∈X.pn++pins,p.1≠b):
    aF X pins σ H' {s with heap:=h',gens:=g',drawn:=d',toks:=t'}:=by
  obtain⟨m,⟨o,es,ep,ho,r⟩,_⟩:=id I.loc
  obtain⟨sl,hL⟩:=u.any ho I.free fun z=>(hch _ z).2.1 rfl
  exact I.step (ch:=ch) hch (fun b o hL hb hc e n=>u.keep b o e n (fun z=>(LJ (I.stkSub b z)).elim hL hb) hc) (fun b o _ _ hc e n=>u.any e n hc) (fun b o hc e n=>u.free b o e n hc) (fun b o hc e=>u.there b o e hc) u.tups u.frzs u.tbls (fun m' hm=>by
    obtain⟨o',es',ep',ho',r'⟩:=hm
    rw [ho] at ho';cases ho'
    exact⟨_,es',ep',hL,r'⟩) hok hg
theorem aF.turned{t':Nat}{it:Addr}(I:aF X pins σ H s)(k:∀b o,b≠it→s.heap.get? b=some o→h'.get? b=some o)(hn:H it=none)(hL:it≠X.env.locals)
    (h1:it∈X.ex∨X.s₀.heap.objs.size≤it)(h2:∀x c,X.env.cells.lookup x=some c→c≠it)(h3:∀p∈X.pn++pins,p.1≠it):aF X pins σ H {s with heap:=h',toks:=t'}:=by
  have nit:∀b u,H b=some u→b≠it:=fun b u e z=>by rw [z,hn] at e;cases e
  refine I.step (g':=s.gens) (d':=s.drawn) (ch:=[it]) (fun b hb=>?_) (fun b o _ _ hc e _=>k b o (fun z=>hc (by simp [z])) e) (fun b o _ _ hc e _=>⟨o.slots,k b o (fun z=>hc (by simp [z])) e⟩) (fun _ _ _ _ n=>n)
    (fun b o hc e=>⟨o,k b o (fun z=>hc (by simp [z])) e⟩) (fun _ _ e=>e) (fun _ _ _ e=>e) (fun b ps e=>⟨#[],by rw [e];simp⟩) (fun m hm=>?_) (fun b u e=>?_) I.bare
  · have e:b=it:=by simpa using hb
    subst e
    exact⟨h1,hL,h2,h3⟩
  · obtain⟨o,es,ep,ho,r⟩:=hm
    exact⟨o,es,ep,k _ o (Ne.symm hL) ho,r⟩
  · refine(I.hok b u e).stay (fun c v hc q=>k c v ?_ q) (fun _ q=>q) fun _ _ q=>q
    rcases hc with z | z
    · rw [z];exact nit b u e
    · exact nit c _ z
theorem aF.tok(I:aF X pins σ H s)(t:Nat):aF X pins σ H {s with toks:=t}:=I.un (h':=s.heap) (t':=t) Un.refl I.hok
theorem aF.kept{t':Nat}(I:aF X pins σ H s)(k:∀b u,s.heap.get? b=some u→h'.get? b=some u):aF X pins σ H {s with heap:=h',toks:=t'}:=I.un (Un.kept k) (I.hok.kept k)
theorem aF.laid{a:Addr}{o:HO}{t':Nat}(I:aF X pins σ H s)(k:∀b u,s.heap.get? b=some u→h'.get? b=some u)(hp:↑s≤a)(new:dX X.prog X.w (a_ H a o) h' a o):
    aF X pins σ (a_ H a o) {s with heap:=h',toks:=t'}:=I.un (Un.laid k hp (I.hok.fresh hp)) (I.hok.laid k hp new)
theorem aF.write{x e:Addr}{o:HO}{t':Nat}(I:aF X pins σ H s)(mu:GW (H x))(he:e=x∨H e=some (.own x))(k:∀b u,b≠e→s.heap.get? b=some u→h'.get? b=some u)(heo:∃u,h'.get? e=some u)
    (new:dX X.prog X.w (a_ H x o) h' x o):aF X pins σ (a_ H x o) {s with heap:=h',toks:=t'}:=I.un (Un.write mu he k heo) (I.hok.write mu he k heo new)
theorem aF.pins_of{pins':List (Addr × Obj)}(I:aF X pins σ H s)(h:∀p∈pins',s.heap.get? p.1=some p.2∧H p.1=none∧p.1≠X.env.locals∧p.1∉X.fs∧∀v,p.2.data≠.cell v):aF X pins' σ H s:=
  ⟨I.ok,I.os,I.bare,I.base,I.loc,I.cell,I.free,I.freeC,fun p hp=>(LH hp).elim (fun z=>I.pin p (List.mem_append_left _ z)) (h p),I.hok,I.len⟩
theorem pd{N:List Str}(hN:N.Nodup){i j:Nat}{x:Str}(a:N[i]?=some x)(b:N[j]?=some x):i=j:=by
  obtain⟨h1,e1⟩:=LG a
  obtain⟨h2,e2⟩:=LG b
  exact(List.getElem_inj hN).mp (e1.trans e2.symm)
theorem mR{M:Model}{A:Around}{E:Value→Shared→Prop}{i:Nat}{x:Str}{v:V}{u:Value}{Q:Unit→Shared→Prop}(I:aF X pins σ H s)(hN:X.N.Nodup)(hi:X.N[i]?=some x)(hx:DC X.env.scope x)(r:bx v u)
    (h:∀s',aF X pins (σ.set i (some v)) H s'→(∃a,Heap.SameBut a s.heap s'.heap∧(a=X.env.locals∨X.env.cells.lookup x=some a))→Q () s')(hf:X.fn x=true∨X.env.scope.names.lookup x=some .local:=by first | exact .inl rfl | exact .inr rfl | assumption):wpAny M A (storeName X.env x u) Q E s:=by
  obtain⟨m,hn,hl⟩:=id I.loc
  have hcls:(X.env.scope.kind==.class || (X.env.scope.kind==.module&&X.env.locals != X.env.globals))=false:=by rw [I.ok.kind];rfl
  have hiσ:i < σ.length:=by rw [I.len];exact(LG hi).1
  have cne:=I.cne
  have tracked:∀{a:Addr} {h':Heap},(∃o,s.heap.get? a=some o∧H a=none)→Heap.SameBut a s.heap h'→nP X.prog X.w H h':=fun{a h'} ha hs b ob e=>by
    obtain⟨_,_,hfree⟩:=ha
    refine(I.hok b ob e).stay (fun c w' hc q=>(hs.2 c ?_).trans q) (fun _ q=>q) fun _ _ q=>q
    rintro rfl
    rcases hc with rfl | hc
    · rw [hfree] at e;cases e
    · rw [hfree] at hc;cases hc
  rcases hx with hk | hk
  · refine wpAny_storeName_local hk hn (fun h' hn' hs=>?_) hcls
    obtain⟨oL,_,_,hoL,_⟩:=id hn
    refine h _ ⟨I.ok,I.os,I.bare,⟨fun b o e n hb hx=>?_,fun b o e n hb hx=>?_,I.base.free,fun b o e hx=>?_,I.base.tups,I.base.frzs,I.base.tbls⟩,⟨_,hn',fun j y v' e1 e2 e3=>?_⟩,fun y c e=>?_,I.free,I.freeC,fun p hp=>?_,tracked ⟨oL,hoL,I.free⟩ hs,by simpa using I.len⟩ ⟨_,hs,.inl rfl⟩
    · exact(hs.2 b (Nat.ne_of_lt (Nat.lt_of_lt_of_le (Heap.lt_size e) I.ok.above))).trans (I.base.keep b o e n hb hx)
    · obtain⟨sl,e1⟩:=I.base.slot b o e n hb hx
      exact⟨sl,(hs.2 b (Nat.ne_of_lt (Nat.lt_of_lt_of_le (Heap.lt_size e) I.ok.above))).trans e1⟩
    · obtain⟨o',e1⟩:=I.base.there b o e hx
      exact⟨o',(hs.2 b (Nat.ne_of_lt (Nat.lt_of_lt_of_le (Heap.lt_size e) I.ok.above))).trans e1⟩
    · by_cases hj:j=i
      · subst hj
        rw [hi] at e1;cases e1
        rw [List.getElem?_set_self hiσ] at e2
        cases e2
        exact⟨u,r,.inl ⟨hk,by simp⟩⟩
      · rw [List.getElem?_set_ne (Ne.symm hj)] at e2
        obtain⟨u',r',q⟩:=hl j y v' e1 e2 e3
        refine⟨u',r',?_⟩
        rcases q with ⟨k,e⟩ | ⟨k,c,e,z⟩
        · refine .inl ⟨k,?_⟩
          have:y≠x:=fun e=>hj (pd hN e1 (e ▸ hi))
          simp [this,e]
        · exact .inr ⟨k,c,e,z.sameBut hs (cne y c e)⟩
    · obtain⟨w',z⟩:=I.cell y c e
      exact⟨w',z.sameBut hs (cne y c e)⟩
    · obtain⟨e,n,ne,nf,d⟩:=I.pin p hp
      exact⟨(hs.2 p.1 ne).trans e,n,ne,nf,d⟩
  · have hfn:X.fn x=true:=by
      rcases hf with z | z
      · exact z
      · rw [z] at hk;cases hk
    obtain⟨c,hc⟩:=I.ok.has x (.inl hk)
    obtain⟨w',z⟩:=I.cell x c hc
    refine wpAny_storeName_cell I.ok.kind hk hc z (fun h' hc' hs=>?_)
    obtain⟨oc,hoc,hocd⟩:=id z
    refine h {s with heap:=h'} ⟨I.ok,I.os,I.bare,⟨fun b o e n hb hx=>?_,fun b o e n hb hx=>?_,I.base.free,fun b o e hx=>?_,I.base.tups,I.base.frzs,I.base.tbls⟩,⟨m,hn.sameBut hs (Ne.symm (cne x c hc)),fun j y v' e1 e2 e3=>?_⟩,fun y c' e=>?_,I.free,I.freeC,fun p hp=>?_,tracked ⟨oc,hoc,I.freeC x c hc⟩ hs,by simpa using I.len⟩ ⟨c,hs,.inr hc⟩
    · exact(hs.2 b (Nat.ne_of_lt (Nat.lt_of_lt_of_le (Heap.lt_size e) (I.ok.cab x c hfn hc)))).trans (I.base.keep b o e n hb hx)
    · obtain⟨sl,e1⟩:=I.base.slot b o e n hb hx
      exact⟨sl,(hs.2 b (Nat.ne_of_lt (Nat.lt_of_lt_of_le (Heap.lt_size e) (I.ok.cab x c hfn hc)))).trans e1⟩
    · obtain⟨o',e1⟩:=I.base.there b o e hx
      exact⟨o',(hs.2 b (Nat.ne_of_lt (Nat.lt_of_lt_of_le (Heap.lt_size e) (I.ok.cab x c hfn hc)))).trans e1⟩
    · by_cases hj:j=i
      · subst hj
        rw [hi] at e1;cases e1
        rw [List.getElem?_set_self hiσ] at e2
        cases e2
        exact⟨u,r,.inr ⟨.inl hk,c,hc,hc'⟩⟩
      · rw [List.getElem?_set_ne (Ne.symm hj)] at e2
        obtain⟨u',r',q⟩:=hl j y v' e1 e2 e3
        refine⟨u',r',?_⟩
        rcases q with q | ⟨k,c',e,z'⟩
        · exact .inl q
        · refine .inr ⟨k,c',e,z'.sameBut hs ?_⟩
          rintro rfl
          exact hj (pd hN e1 (I.ok.inj _ _ _ e hc ▸ hi))
    · by_cases hcc:c'=c
      · subst hcc;exact⟨_,hc'⟩
      · obtain⟨w2,z2⟩:=I.cell y c' e
        exact⟨w2,z2.sameBut hs hcc⟩
    · obtain⟨e,n,ne,nf,d⟩:=I.pin p hp
      refine⟨(hs.2 p.1 ?_).trans e,n,ne,nf,d⟩
      intro q
      rw [q,hoc] at e
      have q':oc=p.2:=Option.some.inj e
      exact d w' (by rw [←q'];exact hocd)
theorem jZ{M:Model}{A:Around}{E:Value→Shared→Prop}{i:Nat}{x:Str}{v:V}{u:Value}{Q:Unit→Shared→Prop}(I:aF X pins σ H s)(hN:X.N.Nodup)(hi:X.N[i]?=some x)(hx:DC X.env.scope x)(r:bx v u)
    (h:∀s',aF X pins (σ.set i (some v)) H s'→Q () s')(hf:X.fn x=true∨X.env.scope.names.lookup x=some .local:=by first | exact .inl rfl | exact .inr rfl | assumption):wpAny M A (storeName X.env x u) Q E s:=
  mR I hN hi hx r (fun s' I' _=>h s' I') hf
theorem aF.call'{s':Shared}{ch:List Addr}(I:aF X pins σ H s)(ho:s'.os=s.os)(u:Un (iN X.stack) ch H H' s.heap s'.heap)(hok:nP X.prog X.w H' s'.heap)(hg:AllBare s'.gens)
    (hch:∀b∈ch,(b∈X.ex∨X.s₀.heap.objs.size≤b)∧b≠X.env.locals∧(∀x c,X.env.cells.lookup x=some c→c≠b)∧∀p∈X.pn++pins,p.1≠b):aF X pins σ H' s':=by
  obtain⟨h',g',d',t',o'⟩:=s'
  have e:o'=s.os:=ho
  subst e
  exact I.call (g':=g') (t':=t') (d':=d') u hok hg hch
end
abbrev XK:=Value→Option Addr→Hp→Prop
abbrev St:=List (Option V)
abbrev VK:=V→Hp→Prop
abbrev TE:=St→Hp→VK→Prop
abbrev TT:=St→Hp→(Bool→Hp→Prop)→Prop
abbrev TA:=St→Hp→(List V→Hp→Prop)→Prop
structure sY where
  nx:St→Hp→Prop
  rt:VK
  bk:St→Hp→Prop:=fun _ _=>False
  ct:St→Hp→Prop:=fun _ _=>False
abbrev TS:=sY→St→Hp→Prop
def EP(X:Cx)(pins:List (Addr × Obj))(σ:St)(Q:VK)(u:Value)(s':Shared):Prop:=∃v H',aF X pins σ H' s'∧bx v u∧Q v H'
def TP(X:Cx)(pins:List (Addr × Obj))(σ:St)(Q:Bool→Hp→Prop)(b:Bool)(s':Shared):Prop:=∃H',aF X pins σ H' s'∧Q b H'
def AP(X:Cx)(pins:List (Addr × Obj))(σ:St)(Q:List V→Hp→Prop)(us:List Value)(s':Shared):Prop:=∃vs H',aF X pins σ H' s'∧aU vs us∧Q vs H'
def SP(X:Cx)(pins:List (Addr × Obj))(D:sY)(f:Flow)(s':Shared):Prop:=
  match f with
  | .next=>∃σ' H',aF X pins σ' H' s'∧D.nx σ' H'
  | .brk=>∃σ' H',aF X pins σ' H' s'∧D.bk σ' H'
  | .cont=>∃σ' H',aF X pins σ' H' s'∧D.ct σ' H'
  | .ret u=>∃v σ' H',aF X pins σ' H' s'∧bx v u∧D.rt v H'
def PE(X:Cx)(e:Expr)(t:TE):Prop:=
  ∀(pins:List (Addr × Obj)) (s:Shared) (σ:St) (H:Hp) (Q:VK),aF X pins σ H s→t σ H Q→wpAny (model X.prog X.w) X.A (eval e X.env) (EP X pins σ Q) X.xe s
def PT(X:Cx)(e:Expr)(t:TT):Prop:=
  ∀(pins:List (Addr × Obj)) (s:Shared) (σ:St) (H:Hp) (Q:Bool→Hp→Prop),aF X pins σ H s→t σ H Q→wpAny (model X.prog X.w) X.A (isTrue e X.env (eval e X.env)) (TP X pins σ Q) X.xe s
def PW(X:Cx)(e:Expr)(t:TT):Prop:=
  ∀(whole:Sem Value) (pins:List (Addr × Obj)) (s:Shared) (σ:St) (H:Hp) (Q:Bool→Hp→Prop),aF X pins σ H s→t σ H Q→wpAny (model X.prog X.w) X.A (isTrue e X.env whole) (TP X pins σ Q) X.xe s
theorem PW.pt{X:Cx}{e:Expr}{t:TT}(h:PW X e t):PT X e t:=h _
def PA(X:Cx)(es:List Expr)(t:TA):Prop:=
  ∀(pos:Pos) (pins:List (Addr × Obj)) (s:Shared) (σ:St) (H:Hp) (Q:List V→Hp→Prop),aF X pins σ H s→t σ H Q→wpAny (model X.prog X.w) X.A (spliced (backTo pos (starEach es X.env))) (AP X pins σ Q) X.xe s
def PS(X:Cx)(st:Stmt)(t:TS):Prop:=
  ∀(pins:List (Addr × Obj)) (s:Shared) (σ:St) (H:Hp) (D:sY),aF X pins σ H s→t D σ H→wpAny (model X.prog X.w) X.A (exec st X.env) (SP X pins D) X.xe s
def lp(X:Cx)(st:List Stmt)(t:TS):Prop:=
  ∀(pins:List (Addr × Obj)) (s:Shared) (σ:St) (H:Hp) (D:sY),aF X pins σ H s→t D σ H→wpAny (model X.prog X.w) X.A (execs st X.env) (SP X pins D) X.xe s
theorem bS{α:Type}{t:Sem α}{Q Q':α→Shared→Prop}{M:Model}{A:Around}{E:Value→Shared→Prop}{s:Shared}(h:wpAny M A t Q E s)(hQ:∀a s,Q a s→Q' a s):wpAny M A t Q' E s:=wpAny_mono h hQ fun _ _ x=>x
section
variable{X:Cx}
def AW(i:Nat):TE:=fun σ H Q=>∃v,σ[i]?=some (some v)∧Q v H
def tC(v:V):TE:=fun _ H Q=>Q v H
theorem jR{i:Nat}{x:Str}{pos:Pos}(hN:X.N[i]?=some x)(hv:yK X.env.scope x)(hd:(x==("__debug__":Str))=false:=by decide)(hcd:(x==("__classdict__":Str))=false:=by decide):PE X (.Name x pos) (AW i):=by
  intro pins s σ H Q I h
  obtain⟨v,e,h⟩:=h
  obtain⟨m,hn,hl⟩:=I.loc
  obtain⟨u,r,l⟩:=hl i x v hN e hv
  have fin:EP X pins σ Q u s:=⟨v,H,I,r,h⟩
  rcases l with ⟨hk,hm⟩ | ⟨hk,c,hc,hcell⟩
  · exact wpAny_Name (wpAny_loadName_local I.ok.kind hk hn hm fin) hd
  · rcases hk with hk | hk
    · exact wpAny_Name (wpAny_loadName_cell I.ok.kind hk hc hcell fin) hd
    · exact wpAny_Name (wpAny_loadName_free I.ok.kind hk hc hcell fin hcd) hd
theorem zT{i j pos}:PE X (.Constant (.int i) j pos) (tC (.int i)):=fun _ _ _ H _ I h=>wpAny_Constant_int ⟨.int i,H,I.tok _,⟨_,rfl⟩,h⟩
theorem Dg{b j pos}:PE X (.Constant (.bool b) j pos) (tC (.bl b)):=fun _ _ _ H _ I h=>Constant_bool ⟨.bl b,H,I,rfl,h⟩
theorem Er{j pos}:PE X (.Constant .none j pos) (tC .non):=fun _ _ _ H _ I h=>Constant_none ⟨.non,H,I,rfl,h⟩
theorem Et{x j pos}:PE X (.Constant (.str x) j pos) (tC (.str x)):=fun _ _ _ H _ I h=>Calls.Constant_str ⟨.str x,H,I.tok _,⟨_,rfl⟩,h⟩
def Gl(X:Cx)(x:Str):Prop:=X.env.kindOf x=some .globalImplicit
theorem j'{E:Value→Shared→Prop}{pins:List (Addr × Obj)}{s:Shared}{σ:St}{H:Hp}{x:Str}{u:Value}{pos:Pos}{Q:Value→Shared→Prop}(I:aF X pins σ H s)(hg:Gl X x)(hm:X.mg x=some u)(h:Q u s)
    (hd:(x==("__debug__":Str))=false:=by decide):wpAny (model X.prog X.w) X.A (eval (.Name x pos) X.env) Q E s:=
  Calls.Name_function_global I.ok.kind hg (Calls.loadGlobal_global (by rw [I.ok.glob];exact I.mod.glob.keeps I.bk) hm h) hd
theorem iD{E:Value→Shared→Prop}{pins:List (Addr × Obj)}{s:Shared}{σ:St}{H:Hp}{x:Str}{u:Value}{pos:Pos}{Q:Value→Shared→Prop}(I:aF X pins σ H s)(hg:Gl X x)(hm:X.mg x=none)(hv:bootBuiltins x=some u)(h:Q u s)
    (hn:x≠"__name__":=by decide)(hd:(x==("__debug__":Str))=false:=by decide):wpAny (model X.prog X.w) X.A (eval (.Name x pos) X.env) Q E s:=by
  obtain⟨mb,h1,h2⟩:=I.mod.blt
  exact Calls.Name_function_global I.ok.kind hg (Calls.loadGlobal_builtin (by rw [I.ok.glob];exact I.mod.glob.keeps I.bk) hm (by rw [I.ok.blt];exact h1.keeps I.bk) ((h2 x hn).trans hv) h) hd
theorem lU{x:Str}{v:V}{u:Value}{pos:Pos}(hg:Gl X x)(hm:X.mg x=some u)(r:bx v u)(hd:(x==("__debug__":Str))=false:=by decide):PE X (.Name x pos) (tC v):=
  fun _ _ _ H _ I h=>j' I hg hm ⟨v,H,I,r,h⟩ hd
variable{a b:Expr}{ta tb:TE}{pos:Pos}
def tB(t:TE):TT:=fun σ H Q=>t σ H fun x H1=>∃c,x=.bl c∧Q c H1
theorem vG{e:Expr}{t:TE}(h:PE X e t)(he:∀whole,isTrue e X.env whole=(do let v ←whole;standAt e.pos;holding [v] (truthy v)):=by intro _;rfl):PT X e (tB t):=by
  intro pins s σ H Q I hw
  refine isTrue_plain (bS (h pins s σ H _ I hw) fun v s1 ⟨x,H1,I1,r1,q1⟩=>?_) (he _)
  obtain⟨d,rfl,q⟩:=q1
  cases r1
  exact wpAny_truthy_bool ⟨H1,I1,q⟩
variable{tA tB':TT}{fL:List Expr}
def GD(t u:TT):TT:=fun σ H Q=>t σ H fun c H1=>if c=true then u σ H1 Q else Q false H1
def HH(t u:TT):TT:=fun σ H Q=>t σ H fun c H1=>if c=true then Q true H1 else u σ H1 Q
def E7(t:TT):TT:=fun σ H Q=>t σ H fun c H1=>Q (!c) H1
theorem Cc(ha:PT X a tA):PW X (.BoolOp .And [a] pos) tA:=by
  intro wh pins s σ H Q I h
  refine isTrue_and (bS (ha pins s σ H Q I h) fun c s1 e=>?_)
  cases c with
  | true=>exact isTrue_and_nil e
  | false=>exact e
theorem An(ha:PT X a tA):PW X (.BoolOp .Or [a] pos) tA:=by
  intro wh pins s σ H Q I h
  refine isTrue_or (bS (ha pins s σ H Q I h) fun c s1 e=>?_)
  cases c with
  | false=>exact isTrue_or_nil e
  | true=>exact e
theorem EA(ha:PT X a tA)(hb:PW X (.BoolOp .And (b::fL) pos) tB'):PW X (.BoolOp .And (a::b::fL) pos) (GD tA tB'):=by
  intro wh pins s σ H Q I h
  refine isTrue_and (bS (ha pins s σ H _ I h) fun c s1 ⟨H1,I1,q1⟩=>?_)
  cases c with
  | true=>exact hb wh pins s1 σ H1 Q I1 q1
  | false=>exact⟨H1,I1,q1⟩
theorem Dj(ha:PT X a tA)(hb:PW X (.BoolOp .Or (b::fL) pos) tB'):PW X (.BoolOp .Or (a::b::fL) pos) (HH tA tB'):=by
  intro wh pins s σ H Q I h
  refine isTrue_or (bS (ha pins s σ H _ I h) fun c s1 ⟨H1,I1,q1⟩=>?_)
  cases c with
  | true=>exact⟨H1,I1,q1⟩
  | false=>exact hb wh pins s1 σ H1 Q I1 q1
theorem Am(ha:PT X a tA):PT X (.UnaryOp .Not a pos) (E7 tA):=by
  intro pins s σ H Q I h
  exact isTrue_not (ha pins s σ H (fun c H1=>Q (!c) H1) I h)
def GE(ta tb:TE):TE:=fun σ H Q=>ta σ H fun x H1=>∃c,x=.bl c∧if c=true then tb σ H1 Q else Q (.bl false) H1
theorem Es{op}{t:TE}(h:PE X a t):PE X (.BoolOp op [a] pos) t:=fun pins s σ H Q I hw=>BoolOp_one (h pins s σ H Q I hw)
theorem Eo(ha:PE X a ta)(hb:PE X (.BoolOp .And (b::fL) pos) tb):PE X (.BoolOp .And (a::b::fL) pos) (GE ta tb):=by
  intro pins s σ H Q I h
  refine BoolOp_and (bS (ha pins s σ H _ I h) fun v s1 ⟨x,H1,I1,r1,q1⟩=>?_)
  obtain⟨c,rfl,q1⟩:=q1
  cases r1
  refine wpAny_truthy_bool ?_
  cases c with
  | true=>exact hb pins s1 σ H1 Q I1 q1
  | false=>exact⟨.bl false,H1,I1,rfl,q1⟩
def Ip(t:TT)(ta tb:TE):TE:=fun σ H Q=>t σ H fun c H1=>if c=true then ta σ H1 Q else tb σ H1 Q
theorem zS{c:Expr}(hc:PT X c tA)(ha:PE X a ta)(hb:PE X b tb):PE X (.IfExp c a b pos) (Ip tA ta tb):=by
  intro pins s σ H Q I h
  refine wpAny_IfExp (bS (hc pins s σ H _ I h) fun d s1 ⟨H1,I1,q1⟩=>?_)
  cases d with
  | true=>exact ha pins s1 σ H1 Q I1 q1
  | false=>exact hb pins s1 σ H1 Q I1 q1
end
def dS(K:⇑0)(H:Hp)(a:Addr)(xs:List V):Prop:=
  Rd H a (.lst xs)∨
    ∃(o:Obj) (its:Array Value) (n:Nat),K.lookup a=some o∧o.cls=.type "list"∧o.dict=none∧o.data=.seq its n∧its.size≤sizeLine∧aU xs its.toList
def cm(K:⇑0)(H:Hp)(a:Addr)(xs:List V):Prop:=
  Rd H a (.tup xs)∨
    ∃(o:Obj) (its:Array Value) (n:Nat),K.lookup a=some o∧o.cls=.type "tuple"∧o.dict=none∧o.data=.seq its n∧its.size≤sizeLine∧aU xs its.toList
def Hg:Value→Option V
  | .none=>some .non
  | .bool b=>some (.bl b)
  | .int i _=>some (.int i)
  | .str x _=>some (.str x)
  | .bytes b _=>some (.byt b)
  | .float b _=>some (.flt b)
  | .ref a=>some (.ref a)
  | .type n=>some (.ty n)
  | _=>none
theorem bx.abs{x:V}{u:Value}(r:bx x u):Hg u=some x:=by
  cases x with
  | non=>cases r;rfl
  | bl _=>cases r;rfl
  | int _=>obtain⟨t,rfl⟩:=r;rfl
  | str _=>obtain⟨t,rfl⟩:=r;rfl
  | byt _=>obtain⟨t,rfl⟩:=r;rfl
  | flt _=>obtain⟨t,rfl⟩:=r;rfl
  | ref _=>cases r;rfl
  | ty _=>cases r;rfl
theorem bx.inj{x y:V}{u:Value}(r:bx x u)(q:bx y u):x=y:=Option.some.inj (r.abs.symm.trans q.abs)
theorem aU.inj:∀{xs ys:List V} {us:List Value},aU xs us→aU ys us→xs=ys
  | _,_,_,.nil,.nil=>rfl
  | _,_,_,.cons r t,.cons r' t'=>by rw [r.inj r',aU.inj t t']
section
variable{X:Cx}{pins:List (Addr × Obj)}{σ:St}{H:Hp}{s:Shared}{a:Addr}{xs ys:List V}
theorem cm.of{K:⇑0}(h:H a=some (.tup xs)):cm K H a xs:=.inl (.inl h)
theorem aF.list(I:aF X pins σ H s)(h:dS X.K H a xs):∃its:List Value,aU xs its∧PlainL s.heap a its.toArray∧xs.length≤sizeLine:=by
  rcases h with h | ⟨o,its,n,hk,hc,hd,hs,hz,r⟩
  · obtain⟨z,its,n,r,e⟩:=h.ok I.hok
    exact⟨its,r,⟨_,n,e,rfl,rfl,rfl⟩,z⟩
  · refine⟨its.toList,r,⟨o,n,I.kIn a o hk,hc,hd,by simpa using hs⟩,?_⟩
    have e:=r.length
    simp only [Array.length_toList] at e
    lia
theorem aF.tuple(I:aF X pins σ H s)(h:cm X.K H a xs):∃its:List Value,aU xs its∧IsTup s.heap a its.toArray∧xs.length≤sizeLine:=by
  rcases h with h | ⟨o,its,n,hk,hc,_,hs,hz,r⟩
  · obtain⟨z,its,r,p⟩:=h.ok I.hok
    exact⟨its,r,p.tup,z⟩
  · refine⟨its.toList,r,⟨o,I.kIn a o hk,hc,n,by simpa using hs⟩,?_⟩
    have e:=r.length
    simp only [Array.length_toList] at e
    lia
theorem aF.list_inj(I:aF X pins σ H s)(h:dS X.K H a xs)(h':dS X.K H a ys):xs=ys:=by
  obtain⟨its,r,⟨o,n,e,_,_,d⟩,_⟩:=I.list h
  obtain⟨its',r',⟨o',n',e',_,_,d'⟩,_⟩:=I.list h'
  rw [e] at e';cases e'
  rw [d] at d'
  injection d' with d1 _
  have:its=its':=by simpa using congrArg Array.toList d1
  subst this
  exact r.inj r'
theorem aF.tuple_inj(I:aF X pins σ H s)(h:cm X.K H a xs)(h':cm X.K H a ys):xs=ys:=by
  obtain⟨its,r,⟨o,e,_,n,d⟩,_⟩:=I.tuple h
  obtain⟨its',r',⟨o',e',_,n',d'⟩,_⟩:=I.tuple h'
  rw [e] at e';cases e'
  rw [d] at d'
  injection d' with d1 _
  have:its=its':=by simpa using congrArg Array.toList d1
  subst this
  exact r.inj r'
end
abbrev Cx.wish(X:Cx)(E:Value→Shared→Prop):Cx:={X with xe:=E}
abbrev Cx.nox(X:Cx):Cx:=X.wish fun _ _=>False
theorem Cx.Ok.wish{X:Cx}(ok:X.Ok)(E:Value→Shared→Prop):(X.wish E).Ok:=
  ⟨ok.mod,ok.kind,ok.glob,ok.blt,ok.above,ok.inj,ok.has,ok.cab,ok.hd,ok.frames,ok.stk,ok.exf,ok.bs,ok.bsz,ok.noex,ok.exfs,ok.funs,ok.frf⟩
theorem Cx.Ok.unwish{X:Cx}{E:Value→Shared→Prop}(ok:(X.wish E).Ok):X.Ok:=
  ⟨ok.mod,ok.kind,ok.glob,ok.blt,ok.above,ok.inj,ok.has,ok.cab,ok.hd,ok.frames,ok.stk,ok.exf,ok.bs,ok.bsz,ok.noex,ok.exfs,ok.funs,ok.frf⟩
section
variable{X:Cx}{pins:List (Addr × Obj)}{σ:St}{H:Hp}{s:Shared}{E:Value→Shared→Prop}
theorem aF.wish(I:aF X pins σ H s)(E:Value→Shared→Prop):aF (X.wish E) pins σ H s:=⟨I.ok.wish E,I.os,I.bare,I.base,I.loc,I.cell,I.free,I.freeC,I.pin,I.hok,I.len⟩
theorem aF.unwish(I:aF (X.wish E) pins σ H s):aF X pins σ H s:=⟨I.ok.unwish,I.os,I.bare,I.base,I.loc,I.cell,I.free,I.freeC,I.pin,I.hok,I.len⟩
theorem SP.unwish{D:sY}{f:Flow}{s':Shared}(h:SP (X.wish E) pins D f s'):SP X pins D f s':=by
  cases f with
  | next=>obtain⟨σ',H',I,q⟩:=h;exact⟨σ',H',I.unwish,q⟩
  | brk=>obtain⟨σ',H',I,q⟩:=h;exact⟨σ',H',I.unwish,q⟩
  | cont=>obtain⟨σ',H',I,q⟩:=h;exact⟨σ',H',I.unwish,q⟩
  | ret u=>obtain⟨v,σ',H',I,r,q⟩:=h;exact⟨v,σ',H',I.unwish,r,q⟩
theorem PT.nox{e:Expr}{t:TT}(h:PT X.nox e t):PT X e t:=fun pins s σ H Q I hw=>
  wpAny_mono (h pins s σ H Q (I.wish _) hw) (fun _ _ ⟨H',I',q⟩=>⟨H',I'.unwish,q⟩) fun _ _ z=>False.elim z
theorem lp.nox{st:List Stmt}{t:TS}(h:lp X.nox st t):lp X st t:=fun pins s σ H D I hw=>
  wpAny_mono (h pins s σ H D (I.wish _) hw) (fun _ _ q=>q.unwish) fun _ _ z=>False.elim z
end
section
variable{X:Cx}{st:Stmt}{fL:List Stmt}{t u:TS}{e:Expr}{te:TE}{pos:Pos}
def Dt:TS:=fun D σ H=>D.nx σ H
def GM(t u:TS):TS:=fun D σ H=>t {D with nx:=u D} σ H
theorem sy:lp X [] Dt:=fun _ _ σ H _ I h=>wpAny_execs_nil ⟨σ,H,I,h⟩
theorem lX(h1:PS X st t)(h2:lp X fL u):lp X (st::fL) (GM t u):=by
  intro pins s σ H D I h
  refine wpAny_execs_cons (bS (h1 pins s σ H {D with nx:=u D} I h) fun f s1 q=>?_)
  cases f with
  | next=>
    obtain⟨σ',H',I',q⟩:=q
    exact h2 pins s1 σ' H' D I' q
  | ret v=>exact q
  | brk=>exact q
  | cont=>exact q
theorem lY(h1:PS X st t):lp X [st] t:=by
  intro pins s σ H D I h
  refine wpAny_execs_cons (bS (h1 pins s σ H D I h) fun f s1 q=>?_)
  cases f with
  | next=>exact wpAny_execs_nil q
  | ret v=>exact q
  | brk=>exact q
  | cont=>exact q
theorem aF.quiet{pins:List (Addr × Obj)}{σ:St}{H:Hp}{s:Shared}(I:aF X pins σ H s):interactive X.env=false:=by simp [interactive,I.ok.kind]
def GF(te:TE):TS:=fun D σ H=>te σ H fun _ H1=>D.nx σ H1
theorem B9(he:PE X e te)(hs:swapsWith e none pos.line X.env=pure false:=by rfl):PS X (.Expr e pos) (GF te):=by
  intro pins s σ H D I h
  exact wpAny_Expr_any (bS (he pins s σ H _ I h) fun v s1 ⟨x,H1,I1,r1,q1⟩=>⟨σ,H1,I1,q1⟩) I.quiet hs
def E8(te:TE):TS:=fun D σ H=>te σ H D.rt
theorem vF(he:PE X e te):PS X (.Return (some e) pos) (E8 te):=by
  intro pins s σ H D I h
  exact wpAny_Return_some (bS (he pins s σ H _ I h) fun v s1 ⟨x,H1,I1,r1,q1⟩=>⟨x,σ,H1,I1,r1,q1⟩)
def GH(c:TT)(t u:TS):TS:=fun D σ H=>c σ H fun b H1=>if b=true then t D σ H1 else u D σ H1
theorem Aj{c:Expr}{a b:List Stmt}{tc:TT}(hc:PT X c tc)(ha:lp X a t)(hb:lp X b u):PS X (.If c a b pos) (GH tc t u):=by
  intro pins s σ H D I h
  refine wpAny_If (bS (hc pins s σ H _ I h) fun d s1 ⟨H1,I1,q1⟩=>?_)
  cases d with
  | true=>exact ha pins s1 σ H1 D I1 q1
  | false=>exact hb pins s1 σ H1 D I1 q1
end
abbrev TG:=V→St→Hp→(St→Hp→Prop)→Prop
abbrev A9:=List V→St→Hp→(St→Hp→Prop)→Prop
def PG(X:Cx)(target:Expr)(t:TG):Prop:=
  ∀(pins:List (Addr × Obj)) (s:Shared) (σ:St) (H:Hp) (v:V) (u:Value) (Q:St→Hp→Prop),aF X pins σ H s→bx v u→t v σ H Q→
    wpAny (model X.prog X.w) X.A (assign target X.env u) (fun _ s'=>∃σ' H',aF X pins σ' H' s'∧Q σ' H') X.xe s
def yC(X:Cx)(ts:List Expr)(t:A9):Prop:=
  ∀(pins:List (Addr × Obj)) (s:Shared) (σ:St) (H:Hp) (vs:List V) (us:List Value) (Q:St→Hp→Prop),aF X pins σ H s→aU vs us→t vs σ H Q→
    wpAny (model X.prog X.w) X.A (assignInOrder ((assignEach ts X.env).map (·.2)) us) (fun _ s'=>∃σ' H',aF X pins σ' H' s'∧Q σ' H') X.xe s
abbrev DF:=V→V→V→Hp→(Hp→Prop)→Prop
def Fv(X:Cx)(t:DF):Prop:=
  ∀(pins:List (Addr × Obj)) (s:Shared) (σ:St) (H:Hp) (o i v:V) (ov iv u:Value) (Q:Hp→Prop),aF X pins σ H s→bx o ov→bx i iv→bx v u→t o i v H Q→
    wpAny (model X.prog X.w) X.A (setItem ov iv u) (fun _ s'=>∃H',aF X pins σ H' s'∧Q H') X.xe s
section
variable{X:Cx}{pos:Pos}
def wG(i:Nat):TG:=fun v σ H Q=>Q (σ.set i (some v)) H
theorem B1{i:Nat}{x:Str}(hN:X.N.Nodup)(hi:X.N[i]?=some x)(hx:DC X.env.scope x)(hf:X.fn x=true∨X.env.scope.names.lookup x=some .local:=by first | exact .inl rfl | exact .inr rfl | assumption):PG X (.Name x pos) (wG i):=by
  intro pins s σ H v u Q I r h
  exact wpAny_assign_Name (jZ I hN hi hx r (fun s' I'=>⟨_,H,I',h⟩) hf)
def Hh:A9:=fun vs σ H Q=>vs=[]∧Q σ H
def FJ(t:TG)(u:A9):A9:=fun vs σ H Q=>∃v r,vs=v::r∧t v σ H fun σ' H'=>u r σ' H' Q
theorem B3:yC X [] Hh:=by
  intro pins s σ H vs us Q I r h
  obtain⟨e,h⟩:=h
  subst e
  cases r
  exact assignInOrder_nil ⟨σ,H,I,h⟩
theorem z9{e:Expr}{es:List Expr}{t:TG}{u:A9}(h1:PG X e t)(h2:yC X es u)
    (hs:(assignEach (e::es) X.env).map (·.2)=assign e X.env::(assignEach es X.env).map (·.2):=by rfl):yC X (e::es) (FJ t u):=by
  intro pins s σ H vs us Q I r h
  obtain⟨v,vr,e1,h⟩:=h
  subst e1
  cases r with
  | cons r rr=>
    rw [hs]
    refine assignInOrder_cons (bS (h1 pins s σ H _ _ _ I r h) fun _ s1 ⟨σ1,H1,I1,q1⟩=>?_)
    exact h2 pins s1 σ1 H1 _ _ Q I1 rr q1
def FN(K:⇑0)(n:Nat)(t:A9):TG:=fun v σ H Q=>∃a xs,v=.ref a∧cm K H a xs∧xs.length=n∧t xs σ H Q
theorem Eu{es:List Expr}{k:Nat}{t:A9}{n:Nat}(hc:X.calm=true)(h:yC X es t)
    (hn:(assignEach es X.env).length=n:=by rfl)(hst:(assignEach es X.env).findIdx? (·.1)=none:=by rfl):PG X (.Tuple es k pos) (FN X.K n t):=by
  intro pins s σ H v u Q I r hw
  obtain⟨a,xs,e1,hq,hl,hw⟩:=hw
  subst e1
  cases r
  obtain⟨its,rv,ht,hz⟩:=I.tuple hq
  refine assign_Tuple_tuple (I.ok.hd hc) ht (by simp [hn,←hl,rv.length]) hst fun h' hx=>?_
  have I1:aF X pins σ H {s with heap:=h'}:=I.kept (t':=s.toks) fun b o e=>hx b o (Nat.ne_of_lt (Heap.lt_size e)) e
  exact h pins _ σ H xs _ Q I1 (by simpa using rv) hw
def Hi(to ti:TE)(t:DF):TG:=fun v σ H Q=>to σ H fun o H1=>ti σ H1 fun i H2=>t o i v H2 fun H3=>Q σ H3
theorem zZ{o i:Expr}{to ti:TE}{t:DF}(ho:PE X o to)(hi:PE X i ti)(hs:Fv X t)
    (ha:∀v,assign (.Subscript o i pos) X.env v=(do
      let ov ←holding [v] (eval o X.env)
      let iv ←holding [v,ov] (eval i X.env)
      standAt pos
      holding [v,ov,iv] (setItem ov iv v)
      release [v,ov,iv] []):=by intro _;rfl):PG X (.Subscript o i pos) (Hi to ti t):=by
  intro pins s σ H v u Q I r h
  rw [ha]
  refine wpAny_bind (wpAny_holding (bS (ho pins s σ H _ I h) fun ov s1 ⟨x,H1,I1,r1,q1⟩=>?_))
  refine wpAny_bind (wpAny_holding (bS (hi pins s1 σ H1 _ I1 q1) fun iv s2 ⟨y,H2,I2,r2,q2⟩=>?_))
  refine wpAny_bind (wpAny_standAt (wpAny_bind (wpAny_holding (bS (hs pins s2 σ H2 x y v ov iv u _ I2 r1 r2 r q2) fun _ s3 ⟨H3,I3,q3⟩=>?_))))
  exact wpAny_release ⟨σ,H3,I3,q3⟩
def Cs(te:TE)(g:TG):TS:=fun D σ H=>te σ H fun x H1=>g x σ H1 D.nx
theorem vD{tg e:Expr}{te:TE}{g:TG}(he:PE X e te)(hg:PG X tg g)(hs:swapsWithSole [tg] e pos.line X.env=pure false:=by rfl)(hw:swappedStores [tg] e X.env=pure none:=by rfl)
    (h1:(assignEach [tg] X.env).map (·.2)=[assign tg X.env]:=by rfl):PS X (.Assign [tg] e pos) (Cs te g):=by
  intro pins s σ H D I h
  refine wpAny_Assign_stores (bS (he pins s σ H _ I h) fun v s1 ⟨x,H1,I1,r1,q1⟩=>?_) hs hw
  rw [h1]
  exact bS (hg pins s1 σ H1 x v _ I1 r1 q1) fun _ s2 q=>q
theorem sx{i:Nat}{x:Str}{e:Expr}{te:TE}{pos':Pos}(hN:X.N.Nodup)(hi:X.N[i]?=some x)(hx:DC X.env.scope x)(he:PE X e te)(hs:swapsWith e (some (.Name x pos')) pos.line X.env=pure false:=by rfl)(hf:X.fn x=true∨X.env.scope.names.lookup x=some .local:=by first | exact .inl rfl | exact .inr rfl | assumption):
    PS X (.Assign [.Name x pos'] e pos) (Cs te (wG i)):=by
  intro pins s σ H D I h
  refine wpAny_Assign_Name (bS (he pins s σ H _ I h) fun v s1 ⟨y,H1,I1,r1,q1⟩=>?_) hs
  exact jZ I1 hN hi hx r1 (fun s2 I2=>⟨_,H1,I2,q1⟩) hf
def HJ(i j:Nat)(ta:TA):TS:=fun D σ H=>ta σ H fun vs H1=>∃v w,vs=[v,w]∧D.nx ((σ.set i (some v)).set j (some w)) H1
theorem Ez{i j:Nat}{x y:Str}{a b:Expr}{ta:TA}{px py pt:Pos}{kt k2 pt2}(hc:X.calm=true)(hN:X.N.Nodup)(hi:X.N[i]?=some x)(hj:X.N[j]?=some y)(hij:i≠j)
    (hx:X.env.scope.names.lookup x=some .local)(hy:X.env.scope.names.lookup y=some .local)(ha:PA X [a,b] ta)
    (hw:swappedStores [.Tuple [.Name x px,.Name y py] kt pt] (.Tuple [a,b] k2 pt2) X.env=pure (some [x,y]))
    (hs:swapsWithSole [.Tuple [.Name x px,.Name y py] kt pt] (.Tuple [a,b] k2 pt2) pos.line X.env=pure false:=by rfl):
    PS X (.Assign [.Tuple [.Name x px,.Name y py] kt pt] (.Tuple [a,b] k2 pt2) pos) (HJ i j ta):=by
  intro pins s σ H D I h
  rw [exec_Assign_arm]
  refine wpAny_bind (wpAny_standAt ?_)
  rw [hs]
  refine wpAny_bind (wpAny_pure ?_)
  rw [if_neg ⋯]
  refine wpAny_bind (Tuple_ (bS (ha _ pins s σ H _ I h) fun us s1 ⟨vs,H1,I1,r1,q1⟩=>?_))
  obtain⟨v,w,e1,q1⟩:=q1
  subst e1
  obtain⟨u1,u2,rfl,rv,rw'⟩:∃u1 u2,us=[u1,u2]∧bx v u1∧bx w u2:=by
    cases r1 with
    | cons p q=>
      cases q with
      | cons p' q'=>
        cases q'
        exact⟨_,_,rfl,p,p'⟩
  refine wpAny_newObj_type ?_ (by show 2≤sizeLine;decide)
  have I2:aF X pins σ H1 {s1 with heap:=s1.heap.push {cls:=.type "tuple",data:=.seq [u1,u2].toArray}}:=I1.kept (t':=s1.toks) fun b o e=>Heap.get?_push_of_some _ e
  rw [hw]
  refine wpAny_bind (wpAny_pure ?_)
  show wpAny (model X.prog X.w) X.A (do rule "assign.swapped-stores";let items ←unpackItems (.ref ↑s1) 2 none;assignInOrder [fun v=>bindName X.env y v,fun v=>bindName X.env x v] items.reverse;pure Flow.next) _ _ _
  refine wpAny_bind (wpAny_rule (wpAny_bind (unpackItems_tuple (items:=#[u1,u2]) (I.ok.hd hc) (IsTup.new s1.heap _) fun h' hx'=>?_)))
  have I3:=I2.kept (h':=h') (t':=s1.toks) fun b o e=>hx' b o (Nat.ne_of_lt (Heap.lt_size e)) e
  show wpAny _ _ (assignInOrder [fun v=>bindName X.env y v,fun v=>bindName X.env x v] [u2,u1] >>= fun _=>pure Flow.next) _ _ _
  refine wpAny_bind (assignInOrder_cons (wpAny_bindName (jZ I3 hN hj (.inl hy) rw' (fun s2 I4=>?_) (.inr hy))))
  refine assignInOrder_cons (wpAny_bindName (jZ I4 hN hi (.inl hx) rv (fun s3 I5=>assignInOrder_nil (wpAny_pure ?_)) (.inr hx)))
  rw [List.set_comm _ _ (Ne.symm hij)] at I5
  exact⟨_,H1,I5,q1⟩
end
section
variable{X:Cx}{pos:Pos}
def E_(c:TT)(tb:TS):TS:=fun D σ H=>∃W:Nat→St→Hp→Prop,(∃m,W m σ H)∧∀m σ H,W m σ H→
  c σ H fun b H1=>if b=true then ∃N:St→Hp→Prop,(∀σ' H',N σ' H'→∃m',m' < m∧W m' σ' H')∧tb {D with nx:=N,ct:=N,bk:=D.nx} σ H1 else D.nx σ H1
theorem Al{c:Expr}{body:List Stmt}{tc:TT}{tb:TS}(hp:PassesOwn (model X.prog X.w) X.A X.env X.xe)(hc:PT X c tc)(hb:lp X body tb):PS X (.While c body [] pos) (E_ tc tb):=by
  intro pins s σ H D I h
  obtain⟨W,⟨m0,w0⟩,turn⟩:=h
  refine wpAny_While (codeAny_whileLoop (fun n s'=>∃σ' H',aF X pins σ' H' s'∧W n σ' H') ?_ m0 ⟨σ,H,I,w0⟩)
  rintro n s1 ⟨σ1,H1,I1,w1⟩
  refine wpAny_passesOwn hp (bS (hc pins s1 σ1 H1 _ I1 (turn n σ1 H1 w1)) fun b s2 ⟨H2,I2,q2⟩=>?_)
  cases b with
  | true=>
    obtain⟨N,hN,q2⟩:=q2
    rw [if_pos rfl]
    refine wpAny_passesOwn hp (bS (hb pins s2 σ1 H2 _ I2 q2) fun f s3 q3=>?_)
    cases f with
    | next=>
      obtain⟨σ3,H3,I3,n3⟩:=q3
      obtain⟨m',hm,w3⟩:=hN σ3 H3 n3
      exact⟨m',hm,σ3,H3,I3,w3⟩
    | cont=>
      obtain⟨σ3,H3,I3,n3⟩:=q3
      obtain⟨m',hm,w3⟩:=hN σ3 H3 n3
      exact⟨m',hm,σ3,H3,I3,w3⟩
    | brk=>exact q3
    | ret v=>exact q3
  | false=>
    rw [if_neg Bool.false_ne_true]
    exact wpAny_execs_nil ⟨σ1,H2,I2,q2⟩
end
structure It where
  go:Nat→Hp→Prop
  yld:Nat→Hp→V→Hp→Prop
  stop:Nat→Hp→Prop
def f_(X:Cx)(pins:List (Addr × Obj))(H:Hp)(b:Addr):Prop:=
  H b=none∧b≠X.env.locals∧b∉X.fs∧(b∈X.ex∨X.s₀.heap.objs.size≤b)∧(∀x c,X.env.cells.lookup x=some c→c≠b)∧∀p∈X.pn++pins,p.1≠b
theorem aF.fpOk{X:Cx}{pins:List (Addr × Obj)}{σ:St}{H H':Hp}{s:Shared}{b:Addr}(I:aF X pins σ H s)(hb:↑s≤b)(hn:H' b=none):f_ X pins H' b:=by
  refine⟨hn,Nat.ne_of_gt (Nat.lt_of_lt_of_le I.lt hb),I.nofs hb,.inr (Nat.le_trans I.sz hb),fun x c e z=>?_,fun p hp z=>?_⟩
  · obtain⟨v,q⟩:=I.cell x c e
    exact absurd (Nat.lt_of_lt_of_le q.lt (by rw [z];exact hb)) (Nat.lt_irrefl _)
  · exact absurd (Nat.lt_of_lt_of_le (Heap.lt_size (I.pin p hp).1) (by rw [z];exact hb)) (Nat.lt_irrefl _)
structure p5 (P:Program) (w:World) (K:⇑0) (tg:Expr) (J:It) (fp:List Addr) (it:Addr) (tn:Nat→Heap→Prop):Prop where
  mem:it∈fp
  obj:∀i h,tn i h→∀b∈fp,∃o,h.get? b=some o∧∀v,o.data≠.cell v
  keep:∀i h h',tn i h→(∀b∈fp,∀o,h.get? b=some o→h'.get? b=some o)→tn i h'
  item:∀(X:Cx),X.prog=P→X.w=w→X.K=K→X.calm=true→∀(i:Nat) (pins:List (Addr × Obj)) (s:Shared) (σ:St) (H:Hp) (E:Value→Shared→Prop),aF X pins σ H s→(∀b∈fp,f_ X pins H b)→tn i s.heap→J.go i H→
    wpAny (model P w) X.A (pyNext (.ref it)) (fun r s1=>∃u,r=some u∧
      wpAny (model P w) X.A (letOwnedTupleGo tg (.ref it) u) (fun _ s2=>∃x H',aF X pins σ H' s2∧bx x u∧J.yld i H x H'∧tn (i+1) s2.heap∧∀b∈fp,H' b=none) E s1) E s
  done:∀(X:Cx),X.prog=P→X.w=w→X.K=K→X.calm=true→∀(i:Nat) (pins:List (Addr × Obj)) (s:Shared) (σ:St) (H:Hp) (E:Value→Shared→Prop),aF X pins σ H s→(∀b∈fp,f_ X pins H b)→tn i s.heap→J.stop i H→
    wpAny (model P w) X.A (pyNext (.ref it)) (fun r s1=>r=none∧aF X pins σ H s1) E s
  self:∀(A:Around) (i:Nat) (s:Shared) (Q:Value→Shared→Prop) (E:Value→Shared→Prop),tn i s.heap→Q (.ref it) s→wpAny (model P w) A (pyIter (.ref it)) Q E s
abbrev TI:=St→Hp→(It→Hp→Prop)→Prop
def HP(X:Cx)(pins:List (Addr × Obj))(σ:St)(tg:Expr)(R:It→Hp→Prop)(itv:Value)(s2:Shared):Prop:=
  ∃(it:Addr) (fp:List Addr) (tn:Nat→Heap→Prop) (J:It) (H':Hp),itv=.ref it∧aF X pins σ H' s2∧p5 X.prog X.w X.K tg J fp it tn∧tn 0 s2.heap∧(∀b∈fp,f_ X pins H' b)∧R J H'
def PI(X:Cx)(tg iter:Expr)(wi:TI):Prop:=
  ∀(pins:List (Addr × Obj)) (s:Shared) (σ:St) (H:Hp) (R:It→Hp→Prop),aF X pins σ H s→wi σ H R→
    wpAny (model X.prog X.w) X.A (eval iter X.env) (fun v s1=>wpAny (model X.prog X.w) X.A (pyIter v) (HP X pins σ tg R) X.xe s1) X.xe s
theorem zh{M:Model}{A:Around}{E:Value→Shared→Prop}{s:Shared}{tg:Expr}{it:Addr}{u:Value}{o:Obj}{n:String}{vs:Array Value}{Q:Unit→Shared→Prop}(ho:s.heap.get? it=some o)(hc:o.cls=.type n)(hd:o.data=.fields vs)
    (hn:["enumerate","zip","dict_itemiterator","dict_reverseitemiterator","odict_iterator","itertools.zip_longest","itertools.pairwise"].contains n=false)(hQ:Q () s):wpAny M A (letOwnedTupleGo tg (.ref it) u) Q E s:=by
  unfold letOwnedTupleGo
  cases tg<;>first
    | exact wpAny_pure hQ
    | (cases u<;>first
        | exact wpAny_pure hQ
        | (refine wpAny_bind (wpAny_load ho ?_)
           rw [hc,hd]
           show wpAny M A (if (["enumerate","zip","dict_itemiterator","dict_reverseitemiterator","odict_iterator","itertools.zip_longest","itertools.pairwise"].contains n&&vs[0]?==some (rawInt _))=true then _ else _) Q E s
           rw [if_neg (by intro h;rw [hn,Bool.false_and] at h;cases h)]
           exact wpAny_pure hQ))
def G9(K:⇑0)(a:Addr):It:=
  ⟨fun i H=>∃xs x,dS K H a xs∧xs[i]?=some x,fun i H x H'=>H'=H∧∀xs,dS K H a xs→xs[i]?=some x,fun i H=>∃xs,dS K H a xs∧xs.length≤i⟩
def G_(K:⇑0)(a:Addr):It:=
  ⟨fun i H=>∃xs x,cm K H a xs∧xs[i]?=some x,fun i H x H'=>H'=H∧∀xs,cm K H a xs→xs[i]?=some x,fun i H=>∃xs,cm K H a xs∧xs.length≤i⟩
def GV(lo:Int)(n:Nat):It:=⟨fun i _=>i < n,fun i H x H'=>H'=H∧x=.int (lo+i),fun i _=>n≤i⟩
theorem yq{P:Program}{w:World}{K:⇑0}{tg:Expr}(a it:Addr):p5 P w K tg (G9 K a) [it] it (fun i h=>h.IsListIter it a i) where
  mem:=by simp
  obj:=fun i h st b hb=>by
    have e:b=it:=by simpa using hb
    subst e
    obtain⟨o,e,c,d⟩:=st
    exact⟨o,e,fun v z=>by rw [d] at z;cases z⟩
  keep:=fun i h h' st k=>st.at fun o e=>k it ↥1 o e
  item:=by
    intro X hP hw hK hc i pins s σ H E I hf st hg
    subst hP hw hK
    obtain⟨xs,x,hq,hx⟩:=hg
    obtain⟨its,rv,p,hz⟩:=I.list hq
    obtain⟨u,hu,ru⟩:=rv.get hx
    obtain⟨f0,f1,f2,f3,f4,f5⟩:=hf it ↥1
    refine wpAny_pyNext_list_item st p.isList (x:=u) (by simpa using hu) fun h' st' sb=>?_
    have I1:aF X pins σ H {s with heap:=h'}:=I.turned (t':=s.toks) (fun b o hb e=>(sb.2 b hb).trans e) f0 f1 f3 f4 f5
    obtain⟨o,e,c,d⟩:=id st'
    exact⟨u,rfl,zh (s:={s with heap:=h'}) e c d ⋯ ⟨x,H,I1,ru,⟨rfl,fun ys hy=>by rw [I.list_inj hy hq];exact hx⟩,st',fun b hb=>(hf b hb).1⟩⟩
  done:=by
    intro X hP hw hK hc i pins s σ H E I hf st hg
    subst hP hw hK
    obtain⟨xs,hq,hx⟩:=hg
    obtain⟨its,rv,p,hz⟩:=I.list hq
    obtain⟨f0,f1,f2,f3,f4,f5⟩:=hf it ↥1
    have hl:=rv.length
    exact wpAny_pyNext_list_end (I.ok.hd hc) st p.isList ↥7 fun h' eb=>⟨rfl,I.turned (t':=s.toks) (fun b o hb e=>eb b o hb e) f0 f1 f3 f4 f5⟩
  self:=fun _ _ _ _ _ st h=>wpAny_pyIter_listiter st h
theorem vX{P:Program}{w:World}{K:⇑0}{tg:Expr}(a it:Addr):p5 P w K tg (G_ K a) [it] it (fun i h=>h.IsTupleIter it a i) where
  mem:=by simp
  obj:=fun i h st b hb=>by
    have e:b=it:=by simpa using hb
    subst e
    obtain⟨o,e,c,d⟩:=st
    exact⟨o,e,fun v z=>by rw [d] at z;cases z⟩
  keep:=fun i h h' st k=>st.at fun o e=>k it ↥1 o e
  item:=by
    intro X hP hw hK hc i pins s σ H E I hf st hg
    subst hP hw hK
    obtain⟨xs,x,hq,hx⟩:=hg
    obtain⟨its,rv,p,hz⟩:=I.tuple hq
    obtain⟨u,hu,ru⟩:=rv.get hx
    obtain⟨f0,f1,f2,f3,f4,f5⟩:=hf it ↥1
    refine wpAny_pyNext_tuple_item st (show s.heap.IsTuple a its.toArray from p) (x:=u) (by simpa using hu) fun h' st' sb=>?_
    have I1:aF X pins σ H {s with heap:=h'}:=I.turned (t':=s.toks) (fun b o hb e=>(sb.2 b hb).trans e) f0 f1 f3 f4 f5
    obtain⟨o,e,c,d⟩:=id st'
    exact⟨u,rfl,zh (s:={s with heap:=h'}) e c d ⋯ ⟨x,H,I1,ru,⟨rfl,fun ys hy=>by rw [I.tuple_inj hy hq];exact hx⟩,st',fun b hb=>(hf b hb).1⟩⟩
  done:=by
    intro X hP hw hK hc i pins s σ H E I hf st hg
    subst hP hw hK
    obtain⟨xs,hq,hx⟩:=hg
    obtain⟨its,rv,p,hz⟩:=I.tuple hq
    obtain⟨f0,f1,f2,f3,f4,f5⟩:=hf it ↥1
    have hl:=rv.length
    exact wpAny_pyNext_tuple_end (I.ok.hd hc) st (show s.heap.IsTuple a its.toArray from p) ↥7 fun h' eb=>⟨rfl,I.turned (t':=s.toks) (fun b o hb e=>eb b o hb e) f0 f1 f3 f4 f5⟩
  self:=fun _ _ _ _ _ st h=>wpAny_pyIter_tupleiter st h
theorem vV{P:Program}{w:World}{K:⇑0}{tg:Expr}(it:Addr)(lo:Int)(n:Nat):p5 P w K tg (GV lo n) [it] it (fun i h=>IsRangeIter h it (lo+(i:Nat)*1) ((n:Int) - (i:Nat)) 1) where
  mem:=by simp
  obj:=fun i h st b hb=>by
    have e:b=it:=by simpa using hb
    subst e
    exact⟨_,st,fun v z=>by
      have z':Data.fields _=Data.cell v:=z
      cases z'⟩
  keep:=fun i h h' st k=>k it ↥1 _ st
  item:=by
    intro X hP hw hK hc i pins s σ H E I hf st hg
    subst hP hw hK
    obtain⟨f0,f1,f2,f3,f4,f5⟩:=hf it ↥1
    have W:=Walks.range (prog:=X.prog) (w:=X.w) (I.ok.hd hc) it lo 1 n
    refine W.item i s _ _ hg st fun v h' tk hv st' kk=>?_
    obtain⟨t,rfl⟩:=hv
    have I1:aF X pins σ H {s with heap:=h',toks:=tk}:=I.turned (fun b o hb e=>kk b o (by simpa using hb) e) f0 f1 f3 f4 f5
    refine⟨_,rfl,zh (s:={s with heap:=h',toks:=tk}) (n:="range_iterator") st' rfl rfl ⋯ ⟨.int (lo+i),H,I1,⟨t,?_⟩,⟨rfl,rfl⟩,st',fun b hb=>(hf b hb).1⟩⟩
    rw [Int.mul_one]
  done:=by
    intro X hP hw hK hc i pins s σ H E I hf st hg
    subst hP hw hK
    obtain⟨f0,f1,f2,f3,f4,f5⟩:=hf it ↥1
    exact wpAny_pyNext_range_end (I.ok.hd hc) st (by have:n≤i:=hg;lia) fun h' eb=>⟨rfl,I.turned (t':=s.toks) (fun b o hb e=>eb b o hb e) f0 f1 f3 f4 f5⟩
  self:=fun _ _ _ _ _ st h=>wpAny_pyIter_rangeiter st h
section
variable{X:Cx}{tg:Expr}
def C8(K:⇑0)(tl:TE):TI:=fun σ H R=>tl σ H fun x H1=>∃a,x=.ref a∧(∃xs,dS K H1 a xs)∧R (G9 K a) H1
def FQ(K:⇑0)(tl:TE):TI:=fun σ H R=>tl σ H fun x H1=>∃a,x=.ref a∧(∃xs,cm K H1 a xs)∧R (G_ K a) H1
theorem B4{l:Expr}{tl:TE}(hl:PE X l tl):PI X tg l (C8 X.K tl):=by
  intro pins s σ H R I h
  refine bS (hl pins s σ H _ I h) fun v s1 ⟨x,H1,I1,r1,q1⟩=>?_
  obtain⟨a,e,⟨xs,hq⟩,q⟩:=q1
  subst e
  cases r1
  obtain⟨its,rv,p,hz⟩:=I1.list hq
  refine wpAny_pyIter_list p.isList ?_
  refine⟨↑s1,[↑s1],_,_,H1,rfl,I1.kept (t':=s1.toks) fun b o e=>Heap.get?_push_of_some _ e,yq a _,⟨_,Heap.get?_push_size _ rfl,rfl,rfl⟩,fun b hb=>?_,q⟩
  have e:b=↑s1:=by simpa using hb
  subst e
  exact I1.fpOk ↥8 (I1.hok.fresh ↥8)
theorem Ew{l:Expr}{tl:TE}(hl:PE X l tl):PI X tg l (FQ X.K tl):=by
  intro pins s σ H R I h
  refine bS (hl pins s σ H _ I h) fun v s1 ⟨x,H1,I1,r1,q1⟩=>?_
  obtain⟨a,e,⟨xs,hq⟩,q⟩:=q1
  subst e
  cases r1
  obtain⟨its,rv,p,hz⟩:=I1.tuple hq
  refine wpAny_pyIter_tuple (show s1.heap.IsTuple a its.toArray from p) ?_
  refine⟨↑s1,[↑s1],_,_,H1,rfl,I1.kept (t':=s1.toks) fun b o e=>Heap.get?_push_of_some _ e,vX a _,⟨_,Heap.get?_push_size _ rfl,rfl,rfl⟩,fun b hb=>?_,q⟩
  have e:b=↑s1:=by simpa using hb
  subst e
  exact I1.fpOk ↥8 (I1.hok.fresh ↥8)
theorem AA{pins:List (Addr × Obj)}{σ:St}{H:Hp}{s:Shared}{R:It→Hp→Prop}{E:Value→Shared→Prop}{lo hi:Int}{t u v:Tok}{tk:Nat}(I:aF X pins σ H s)(h1: -(2 ^ 62)≤lo)(h2:lo < 2 ^ 62)(h3: -(2 ^ 62)≤hi)(h4:hi < 2 ^ 62)
    (q:R (GV lo (hi - lo).toNat) H):wpAny (model X.prog X.w) X.A (pyIter (.ref ↑s)) (HP X pins σ tg R) E {s with heap:=s.heap.push {cls:=.type "range",data:=.fields #[.int lo t,.int hi u,.int 1 v]},toks:=tk}:=by
  refine wpAny_pyIter_range (IsRange.new ..) (small_one h1 h2 h3 h4) ?_
  have I1:aF X pins σ H {s with heap:=s.heap.push {cls:=.type "range",data:=.fields #[.int lo t,.int hi u,.int 1 v]},toks:=tk}:=I.kept fun b o e=>Heap.get?_push_of_some _ e
  refine⟨(s.heap.push {cls:=.type "range",data:=.fields #[.int lo t,.int hi u,.int 1 v]}).objs.size,[(s.heap.push {cls:=.type "range",data:=.fields #[.int lo t,.int hi u,.int 1 v]}).objs.size],_,_,H,rfl,
    I1.kept (t':=tk) fun b o e=>Heap.get?_push_of_some _ e,vV _ lo (hi - lo).toNat,?_,fun b hb=>?_,q⟩
  · have e1:lo+((0:Nat):Int)*1=lo:=by simp
    have e2:(((hi - lo).toNat:Nat):Int) - ((0:Nat):Int)=Builtin.Range.rangeSize lo hi 1:=by rw [rangeSize_one];split<;>lia
    show IsRangeIter _ _ (lo+((0:Nat):Int)*1) ((((hi - lo).toNat:Nat):Int) - ((0:Nat):Int)) 1
    rw [e1,e2]
    exact Heap.get?_push_size _ rfl
  · have e:b=(s.heap.push {cls:=.type "range",data:=.fields #[.int lo t,.int hi u,.int 1 v]}).objs.size:=by simpa using hb
    subst e
    exact I1.fpOk ↥8 (I1.hok.fresh ↥8)
def FP(ta:TA):TI:=fun σ H R=>ta σ H fun vs H1=>∃j:Int,vs=[.int j]∧ -(2 ^ 62)≤j∧j < 2 ^ 62∧R (GV 0 j.toNat) H1
theorem x_{a:Expr}{ta:TA}{p pos:Pos}(hg:Gl X "range")(hm:X.mg "range"=none)(ha:PA X [a] ta)(hs:starEach [a] X.env=[(false,eval a X.env)]:=by rfl):PI X tg (.Call (.Name "range" p) [a] [] pos) (FP ta):=by
  intro pins s σ H R I h
  refine Call_ (iD I hg hm boot_range (PyProof.Rows.callWith_type1 (bS (ha pos pins s σ H _ I h) fun us s1 ⟨vs,H1,I1,r1,q1⟩=>?_) hs rfl))
  obtain⟨j,e,q1,q2,q⟩:=q1
  subst e
  cases r1 with
  | cons r rr=>
    cases rr
    obtain⟨t,rfl⟩:=r
    exact call_range_1 (AA I1 ↥0 ↥0 q1 q2 (by simpa using q))
def HG(wi:TI)(g:TG)(tb:TS):TS:=fun D σ H=>wi σ H fun J H1=>∃W:Nat→Nat→St→Hp→Prop,(∃m,W 0 m σ H1)∧∀i m σ H,W i m σ H→
  (J.stop i H∧D.nx σ H)∨(J.go i H∧∃N:St→Hp→Prop,(∀σ' H',N σ' H'→∃m',m' < m∧W (i+1) m' σ' H')∧∀x H',J.yld i H x H'→g x σ H' fun σ2 H2=>tb {D with nx:=N,ct:=N,bk:=D.nx} σ2 H2)
def jS(fp:List Addr)(h:Heap):List (Addr × Obj):=fp.filterMap fun b=>(h.get? b).map fun o=>(b,o)
theorem bW{fp:List Addr}{h:Heap}{b:Addr}{o:Obj}(hb:b∈fp)(e:h.get? b=some o):(b,o)∈jS fp h:=List.mem_filterMap.mpr ⟨b,hb,by rw [e];rfl⟩
theorem xX{fp:List Addr}{h:Heap}{p:Addr × Obj}(hp:p∈jS fp h):p.1∈fp∧h.get? p.1=some p.2:=by
  obtain⟨b,hb,e⟩:=List.mem_filterMap.mp hp
  cases q:h.get? b with
  | none=>rw [q] at e;cases e
  | some o=>
    rw [q] at e
    have e':(b,o)=p:=Option.some.inj e
    subst e'
    exact⟨hb,q⟩
theorem aF.pinned{pins:List (Addr × Obj)}{σ:St}{H:Hp}{s:Shared}{fp:List Addr}(I:aF X pins σ H s)(hf:∀b∈fp,f_ X pins H b)(ho:∀b∈fp,∃o,s.heap.get? b=some o∧∀v,o.data≠.cell v):aF X (pins++jS fp s.heap) σ H s:=
  I.pins_of fun p hp=>(LH hp).elim (fun z=>I.pin p (List.mem_append_right _ z)) fun z=>by
    obtain⟨hb,e⟩:=xX z
    obtain⟨f0,f1,f2,_⟩:=hf p.1 hb
    obtain⟨o,e',d⟩:=ho p.1 hb
    rw [e] at e';cases e'
    exact⟨e,f0,f1,f2,d⟩
theorem aF.unpinned{pins pl:List (Addr × Obj)}{σ:St}{H:Hp}{s:Shared}(I:aF X (pins++pl) σ H s):aF X pins σ H s:=I.pins_of fun p hp=>I.pin p (List.mem_append_right _ (List.mem_append_left _ hp))
theorem Ey{iter:Expr}{body:List Stmt}{wi:TI}{g:TG}{tb:TS}{pos:Pos}(hp:PassesOwn (model X.prog X.w) X.A X.env X.xe)(hc:X.calm=true)(hi:PI X tg iter wi)(hg:PG X tg g)(hb:lp X body tb)
    (hs:∀x,foldedSetIterable iter X.env x=pure x:=by intro _;rfl):PS X (.For tg iter body [] pos) (HG wi g tb):=by
  intro pins s σ H D I h
  refine wpAny_For (bS (hi pins s σ H _ I h) fun v s1 h1=>bS h1 fun itv s2 h2=>?_) hs
  obtain⟨it,fp,tn,J,H2,e,I2,T,st2,f2,W,⟨m0,w0⟩,turn⟩:=h2
  subst e
  have stat:∀{H':Hp},(∀b∈fp,H' b=none)→∀b∈fp,f_ X pins H' b:=fun hn b hb=>⟨hn b hb,(f2 b hb).2⟩
  refine codeAny_forLoop_any (fun n s'=>∃i σ' H',aF X pins σ' H' s'∧tn i s'.heap∧(∀b∈fp,H' b=none)∧W i n σ' H') ?_ m0 ⟨0,σ,H2,I2,st2,fun b hb=>(f2 b hb).1,w0⟩
  rintro n s3 ⟨i,σ3,H3,I3,st3,fr3,w3⟩
  rcases turn i n σ3 H3 w3 with ⟨stop,qn⟩ | ⟨go,N,hN,step⟩
  · refine wpAny_passesOwn hp (bS (T.done X rfl rfl rfl hc i pins s3 σ3 H3 X.xe I3 (stat fr3) st3 stop) fun r s4 ⟨hr,I4⟩=>?_)
    subst hr
    exact wpAny_execs_nil ⟨σ3,H3,I4,qn⟩
  · refine wpAny_passesOwn hp (bS (T.item X rfl rfl rfl hc i pins s3 σ3 H3 X.xe I3 (stat fr3) st3 go) fun r s4 ⟨u,hr,h4⟩=>?_)
    subst hr
    refine wpAny_passesOwn hp (bS h4 fun _ s5 ⟨x,H5,I5,r5,y5,st5,fr5⟩=>?_)
    have I5':=I5.pinned (stat fr5) (T.obj _ _ st5)
    refine wpAny_passesOwn hp (bS (hg _ s5 σ3 H5 x u _ I5' r5 (step x H5 y5)) fun _ s6 ⟨σ6,H6,I6,q6⟩=>?_)
    refine wpAny_passesOwn hp (bS (hb _ s6 σ6 H6 _ I6 q6) fun f s7 q7=>?_)
    have again:∀{σ7:St} {H7:Hp},aF X (pins++jS fp s5.heap) σ7 H7 s7→N σ7 H7→∃m,m < n∧∃i σ' H',aF X pins σ' H' s7∧tn i s7.heap∧(∀b∈fp,H' b=none)∧W i m σ' H':=fun{σ7 H7} I7 n7=>by
      obtain⟨m',hm,w7⟩:=hN σ7 H7 n7
      refine⟨m',hm,i+1,σ7,H7,I7.unpinned,T.keep _ _ _ st5 fun b hb o e=>(I7.pin (b,o) (List.mem_append_right _ (List.mem_append_right _ (bW hb e)))).1,fun b hb=>?_,w7⟩
      obtain⟨o,e,d⟩:=T.obj _ _ st5 b hb
      exact(I7.pin (b,o) (List.mem_append_right _ (List.mem_append_right _ (bW hb e)))).2.1
    cases f with
    | next=>obtain⟨σ7,H7,I7,n7⟩:=q7;exact again I7 n7
    | cont=>obtain⟨σ7,H7,I7,n7⟩:=q7;exact again I7 n7
    | brk=>obtain⟨σ7,H7,I7,q7⟩:=q7;exact⟨σ7,H7,I7.unpinned,q7⟩
    | ret v=>obtain⟨x7,σ7,H7,I7,r7,q7⟩:=q7;exact⟨x7,σ7,H7,I7.unpinned,r7,q7⟩
end
abbrev R2:=V→V→Hp→VK→Prop
def jv(X:Cx)(f:Value→Value→Sem Value)(r:R2):Prop:=
  ∀(pins:List (Addr × Obj)) (s:Shared) (σ:St) (H:Hp) (x y:V) (v u:Value) (Q:VK),aF X pins σ H s→bx x v→bx y u→r x y H Q→
    wpAny (model X.prog X.w) X.A (f v u) (EP X pins σ Q) X.xe s
def GY(X:Cx)(f:Value→Sem Value)(r:V→Hp→VK→Prop):Prop:=
  ∀(pins:List (Addr × Obj)) (s:Shared) (σ:St) (H:Hp) (x:V) (v:Value) (Q:VK),aF X pins σ H s→bx x v→r x H Q→
    wpAny (model X.prog X.w) X.A (f v) (EP X pins σ Q) X.xe s
def dW(X:Cx)(f:Value)(r:List V→Hp→VK→Prop):Prop:=
  ∀(pins:List (Addr × Obj)) (s:Shared) (σ:St) (H:Hp) (xs:List V) (us:List Value) (Q:VK),aF X pins σ H s→aU xs us→r xs H Q→
    wpAny (model X.prog X.w) X.A (call f us) (EP X pins σ Q) X.xe s
def GK(r:R2)(ta tb:TE):TE:=fun σ H Q=>ta σ H fun x H1=>tb σ H1 fun y H2=>r x y H2 Q
def HX(r:V→Hp→VK→Prop)(ta:TE):TE:=fun σ H Q=>ta σ H fun x H1=>r x H1 Q
def rI(C:Int→Int→Prop)(g:Int→Int→V):R2:=fun x y H Q=>∃i j,x=.int i∧y=.int j∧C i j∧Q (g i j) H
def yf(g:Int→Int→V):R2:=fun x y H Q=>∃i j,x=.int i∧y=.int j∧Q (g i j) H
def rU(g:Int→V):V→Hp→VK→Prop:=fun x H Q=>∃i,x=.int i∧Q (g i) H
section
variable{X:Cx}{a b c:Expr}{ta tb tc:TE}{pos:Pos}
theorem DH(ha:PE X a ta)(hb:PE X b tb){pins:List (Addr × Obj)}{s:Shared}{σ:St}{H:Hp}{R:V→V→Hp→Prop}(I:aF X pins σ H s)
    (h:ta σ H fun x H1=>tb σ H1 fun y H2=>R x y H2){Q:Value→Shared→Prop}{f:Value→Value→Sem Value}
    (hf:∀v u s2 x y H2,aF X pins σ H2 s2→bx x v→bx y u→R x y H2→wpAny (model X.prog X.w) X.A (f v u) Q X.xe s2):
    wpAny (model X.prog X.w) X.A (eval a X.env) (fun v s₁=>wpAny (model X.prog X.w) X.A (eval b X.env) (fun u s₂=>wpAny (model X.prog X.w) X.A (f v u) Q X.xe s₂) X.xe s₁) X.xe s:=by
  refine bS (ha pins s σ H _ I h) fun v s1 ⟨x,H1,I1,r1,q1⟩=>?_
  refine bS (hb pins s1 σ H1 _ I1 q1) fun u s2 ⟨y,H2,I2,r2,q2⟩=>?_
  exact hf v u s2 x y H2 I2 r1 r2 q2
theorem Di{op:Operator}{r:R2}(ho:jv X (binaryOp op) r)(ha:PE X a ta)(hb:PE X b tb):PE X (.BinOp a op b pos) (GK r ta tb):=by
  intro pins s σ H Q I h
  exact wpAny_BinOp (DH ha hb I h fun v u s2 x y H2 I2 rx ry q=>ho pins s2 σ H2 x y v u Q I2 rx ry q)
theorem Gf{op:UnaryOp}{r:V→Hp→VK→Prop}(ho:GY X (unaryOp op) r)(ha:PE X a ta):PE X (.UnaryOp op a pos) (HX r ta):=by
  intro pins s σ H Q I h
  exact UnaryOp_ (bS (ha pins s σ H _ I h) fun v s1 ⟨x,H1,I1,r1,q1⟩=>ho pins s1 σ H1 x v Q I1 r1 q1)
theorem Ft{f:Value→Value→Sem Value}{C:Int→Int→Prop}{g:Int→Int→Int}
    (rule:∀(i j:Int) (t u:Tok) (s:Shared) (Q:Value→Shared→Prop) (E:Value→Shared→Prop),C i j→Q (.int (g i j) s.toks) {s with toks:=s.toks+1}→wpAny (model X.prog X.w) X.A (f (.int i t) (.int j u)) Q E s):
    jv X f (rI C fun i j=>.int (g i j)):=by
  intro pins s σ H x y v u Q I rx ry h
  obtain⟨i,j,rfl,rfl,hc,q⟩:=h
  obtain⟨t,rfl⟩:=rx
  obtain⟨t',rfl⟩:=ry
  exact rule i j t t' s _ _ hc ⟨.int (g i j),H,I.tok _,⟨_,rfl⟩,q⟩
theorem Ga{f:Value→Value→Sem Value}{g:Int→Int→Int}
    (rule:∀(i j:Int) (t u:Tok) (s:Shared) (Q:Value→Shared→Prop) (E:Value→Shared→Prop),Q (.int (g i j) s.toks) {s with toks:=s.toks+1}→wpAny (model X.prog X.w) X.A (f (.int i t) (.int j u)) Q E s):
    jv X f (yf fun i j=>.int (g i j)):=by
  intro pins s σ H x y v u Q I rx ry h
  obtain⟨i,j,rfl,rfl,q⟩:=h
  obtain⟨t,rfl⟩:=rx
  obtain⟨t',rfl⟩:=ry
  exact rule i j t t' s _ _ ⟨.int (g i j),H,I.tok _,⟨_,rfl⟩,q⟩
theorem Ed{f:Value→Value→Sem Value}{g:Int→Int→Bool}
    (rule:∀(i j:Int) (t u:Tok) (s:Shared) (Q:Value→Shared→Prop) (E:Value→Shared→Prop),Q (.bool (g i j)) s→wpAny (model X.prog X.w) X.A (f (.int i t) (.int j u)) Q E s):
    jv X f (yf fun i j=>.bl (g i j)):=by
  intro pins s σ H x y v u Q I rx ry h
  obtain⟨i,j,rfl,rfl,q⟩:=h
  obtain⟨t,rfl⟩:=rx
  obtain⟨t',rfl⟩:=ry
  exact rule i j t t' s _ _ ⟨.bl (g i j),H,I,rfl,q⟩
def yI(i j:Int):Prop:=0≤j∧j≤1000000∧i.natAbs < 2 ^ 64
def Bd(i j:Int):Prop:=(-(2 ^ 64) < i∧i < 2 ^ 64)∨(-(2 ^ 64) < j∧j < 2 ^ 64)
theorem Bd.ok{i j:Int}(h:Bd i j):IntMulOk i j:=by
  rcases h with ⟨h1,h2⟩ | ⟨h1,h2⟩
  · exact .of_left (intBits_le_64 h1 h2)
  · exact .of_right (intBits_le_64 h1 h2)
theorem zO:jv X (binaryOp .Add) (yf fun i j=>.int (i+j)):=Ga fun _ _ _ _ _ _ _ q=>add_int q
theorem Em:jv X (binaryOp .Sub) (yf fun i j=>.int (i - j)):=Ga fun _ _ _ _ _ _ _ q=>sub_int q
theorem Eh:jv X (binaryOp .Mult) (rI Bd fun i j=>.int (i*j)):=Ft fun _ _ _ _ _ _ _ hc q=>mul_int q hc.ok
theorem BQ:jv X (binaryOp .Mod) (rI (fun _ j=>j≠0) fun i j=>.int (i.fmod j)):=Ft fun _ _ _ _ _ _ _ hc q=>mod_int' hc q
theorem Ej:jv X (binaryOp .Pow) (rI yI fun i j=>.int (i ^ j.toNat)):=Ft fun _ _ _ _ _ _ _ hc q=>pow_int_small hc.1 hc.2.1 hc.2.2 q
theorem El:jv X (binaryOp .LShift) (rI yI fun i j=>.int (i*2 ^ j.toNat)):=Ft fun _ _ _ _ _ _ _ hc q=>lshift_int_small hc.1 hc.2.1 hc.2.2 q
theorem Ir{f:Value→Sem Value}{g:Int→Int}
    (rule:∀(i:Int) (t:Tok) (s:Shared) (Q:Value→Shared→Prop) (E:Value→Shared→Prop),Q (.int (g i) s.toks) {s with toks:=s.toks+1}→wpAny (model X.prog X.w) X.A (f (.int i t)) Q E s):
    GY X f (rU fun i=>.int (g i)):=by
  intro pins s σ H x v Q I rx h
  obtain⟨i,rfl,q⟩:=h
  obtain⟨t,rfl⟩:=rx
  exact rule i t s _ _ ⟨.int (g i),H,I.tok _,⟨_,rfl⟩,q⟩
theorem Fj:GY X (unaryOp .USub) (rU fun i=>.int (-i)):=Ir fun _ _ _ _ _ q=>neg_int q
end
section
variable{X:Cx}{a b c:Expr}{ta tb tc:TE}{pos:Pos}
theorem Gd:jv X (compareOp .Lt) (yf fun i j=>.bl (decide (i < j))):=Ed fun _ _ _ _ _ _ _ q=>lt_int q
theorem Gc:jv X (compareOp .Gt) (yf fun i j=>.bl (decide (j < i))):=Ed fun _ _ _ _ _ _ _ q=>gt_int q
theorem Gb:jv X (compareOp .GtE) (yf fun i j=>.bl (decide (j≤i))):=Ed fun _ _ _ _ _ _ _ q=>ge_int q
theorem jv.or{f:Value→Value→Sem Value}{r r':R2}(h:jv X f r)(h':jv X f r'):jv X f (fun x y H Q=>r x y H Q∨r' x y H Q):=by
  intro pins s σ H x y v u Q I rx ry q
  rcases q with q | q
  · exact h pins s σ H x y v u Q I rx ry q
  · exact h' pins s σ H x y v u Q I rx ry q
theorem a'(b:Expr){op:CmpOp}(h:op≠.In:=by decide)(h2:op≠.NotIn:=by decide):behindInMarks op b=false:=by
  have e1:(op==CmpOp.In)=false:=by cases op<;>first | rfl | exact absurd rfl h
  have e2:(op==CmpOp.NotIn)=false:=by cases op<;>first | rfl | exact absurd rfl h2
  cases b<;>simp [behindInMarks,e1,e2]
theorem BZ{op:CmpOp}{r:R2}(ho:jv X (compareOp op) r)(ha:PE X a ta)(hb:PE X b tb)(hm:behindInMarks op b=false):PE X (.Compare a [op] [b] pos) (GK r ta tb):=by
  intro pins s σ H Q I h
  exact wpAny_Compare1 (DH ha hb I h fun v u s2 x y H2 I2 rx ry q=>ho pins s2 σ H2 x y v u Q I2 rx ry q) hm
def GN(t:TE):TT:=fun σ H Q=>t σ H fun x H'=>∃k,x=.bl k∧Q k H'
theorem B_{op:CmpOp}{r:R2}(ho:jv X (compareOp op) r)(ha:PE X a ta)(hb:PE X b tb)(hm:behindInMarks op b=false):PT X (.Compare a [op] [b] pos) (GN (GK r ta tb)):=by
  intro pins s σ H Q I h
  refine wpAny_isTrue_Compare1 (bS (ha pins s σ H _ I h) fun v s1 ⟨x,H1,I1,r1,q1⟩=>bS (hb pins s1 σ H1 _ I1 q1) fun u s2 ⟨y,H2,I2,r2,q2⟩=>
    bS (ho pins s2 σ H2 x y v u _ I2 r1 r2 q2) fun c s3 ⟨z,H3,I3,r3,k,e,q3⟩=>?_) hm
  subst e
  cases r3
  exact wpAny_truthy_bool ⟨H3,I3,q3⟩
theorem r9:(sizeLine:Nat) < 2 ^ 63:=by rw [sizeLine_eq];decide
theorem uK{x:V}{us:List Value}(r:aU [x] us):∃u,us=[u]∧bx x u:=by
  cases r with
  | cons r1 r2=>cases r2;exact⟨_,rfl,r1⟩
theorem Dw{x y:V}{us:List Value}(r:aU [x,y] us):∃u w',us=[u,w']∧bx x u∧bx y w':=by
  cases r with
  | cons r1 r2=>
    cases r2 with
    | cons r3 r4=>cases r4;exact⟨_,_,rfl,r1,r3⟩
theorem yX:dW X (.builtin "abs") (fun xs H Q=>∃i,xs=[.int i]∧Q (.int (if i < 0 then -i else i)) H):=by
  intro pins s σ H xs us Q I r h
  obtain⟨i,rfl,q⟩:=h
  obtain⟨u,rfl,t,rfl⟩:=uK r
  exact call_abs_int fun u tk=>⟨.int (if i < 0 then -i else i),H,I.tok _,⟨_,rfl⟩,q⟩
theorem xI(hc:X.calm=true):dW X (.builtin "max") (fun xs H Q=>∃i j,xs=[.int i,.int j]∧Q (.int (if j > i then j else i)) H):=by
  intro pins s σ H xs us Q I r h
  obtain⟨i,j,rfl,q⟩:=h
  obtain⟨u,w',rfl,⟨t,rfl⟩,⟨t',rfl⟩⟩:=Dw r
  refine max_two_ints (I.ok.hd hc) fun h' tk k=>⟨_,H,I.kept k,?_,q⟩
  by_cases hj:j > i
  · rw [if_pos hj,if_pos hj];exact⟨_,rfl⟩
  · rw [if_neg hj,if_neg hj];exact⟨_,rfl⟩
theorem xJ(hc:X.calm=true):dW X (.builtin "min") (fun xs H Q=>∃i j,xs=[.int i,.int j]∧Q (.int (if j < i then j else i)) H):=by
  intro pins s σ H xs us Q I r h
  obtain⟨i,j,rfl,q⟩:=h
  obtain⟨u,w',rfl,⟨t,rfl⟩,⟨t',rfl⟩⟩:=Dw r
  refine min_two_ints (I.ok.hd hc) fun h' tk k=>⟨_,H,I.kept k,?_,q⟩
  by_cases hj:j < i
  · rw [if_pos hj,if_pos hj];exact⟨_,rfl⟩
  · rw [if_neg hj,if_neg hj];exact⟨_,rfl⟩
theorem xG:dW X (.type "int") (fun xs H Q=>(∃i,xs=[.int i]∧Q (.int i) H)∨∃k,xs=[.bl k]∧Q (.int (if k then 1 else 0)) H):=by
  intro pins s σ H xs us Q I r h
  rcases h with ⟨i,rfl,q⟩ | ⟨k,rfl,q⟩
  · obtain⟨u,rfl,t,rfl⟩:=uK r
    exact call_int_int ⟨.int i,H,I,⟨_,rfl⟩,q⟩
  · obtain⟨u,rfl,r1⟩:=uK r
    cases r1
    exact call_int_bool ⟨.int (if k then 1 else 0),H,I.tok _,⟨_,rfl⟩,q⟩
end
structure Ie (h:Heap) (x dx C:Addr) (mA:Str→Option Value):Prop where
  obj:h.get? x=some (PySem.W.instObj C dx)
  ns:h.Ns1 dx mA
  ne:dx≠x
section
variable{prog:Program}{w:World}{A:Around}{E:Value→Shared→Prop}{s:Shared}{K:⇑0}{x dx C f:Addr}{mA:Str→Option Value}{name:Str}{v:Value}
end
section
variable{P:Program}{w:World}{H H':Hp}{h h':Heap}{a C dx:Addr}{fs fs':List (Str × V)}
end
structure H_ (K:⇑0) (C:Addr):Prop where
  pg:PySem.W.plainGet K C Str.empty=true
  hd:PySem.W.hasDictIn K C=true
  po:PySem.W.plainOver K C=true
  sa:PySem.W.findIn K (.ref C) "__setattr__"=some (some (.builtin "object.__setattr__"))
structure Iw (K:⇑0) (C:Addr) (f:Str) (v:V) (u:Value):Prop where
  at_:PySem.W.findIn K (.ref C) f=some (some u)
  rel:bx v u
  get:PySem.W.specialIn K u "__get__"=some none
  cp:PySem.W.copiedNames.contains f=false
structure Ic (K:⇑0) (C:Addr) (m:Str) (f:Addr):Prop where
  at_:PySem.W.findIn K (.ref C) m=some (some (.ref f))
  fn:PySem.W.isFn K (.ref f)=true
  kp:PySem.W.keepIn K (.ref f)=true
section
variable{X:Cx}{pins:List (Addr × Obj)}{σ:St}{H:Hp}{s:Shared}{a C dx:Addr}{fs:List (Str × V)}{f:Str}{v:V}{A:Around}{E:Value→Shared→Prop}
end
section
variable{X:Cx}{o e value:Expr}{f:Str}{pos pos' tpos:Pos}{ta tv:TE}
end
section
variable{X:Cx}{pins:List (Addr × Obj)}{σ:St}{H:Hp}{s:Shared}{A:Around}{E:Value→Shared→Prop}{Q:Value→Shared→Prop}{c:Value}{b:Bool}
inductive oA (K:⇑0) (H:Hp):V→Value→Prop where
  | non:oA K H .non (.type "NoneType")
  | bl (x:Bool):oA K H (.bl x) (.type "bool")
  | int (i:Int):oA K H (.int i) (.type "int")
  | str (x:Str):oA K H (.str x) (.type "str")
  | flt (x:UInt64):oA K H (.flt x) (.type "float")
  | lst {a:Addr} {xs:List V} (e:H a=some (.lst xs)):oA K H (.ref a) (.type "list")
  | frz {a:Addr} {o:Obj} {xs:List V} (e:H a=some (.frz o (.lst xs))):oA K H (.ref a) (.type "list")
  | tup {a:Addr} {xs:List V} (e:H a=some (.tup xs)):oA K H (.ref a) (.type "tuple")
  | dK {a:Addr} {kvs:List (mV × V)} (e:H a=some (.dK kvs)):oA K H (.ref a) (.type "dict")
  | dT {a:Addr} {kvs:List (List mV × V)} (e:H a=some (.dT kvs)):oA K H (.ref a) (.type "dict")
  | ins {a C dx:Addr} {fs:List (Str × V)} (e:H a=some (.ins C dx fs)) (cl:H_ K C) (ha:PySem.W.findIn K (.ref C) "__class__"=some (some (.builtin "object.__class__")))
      (hn:PySem.W.specialIn K (.builtin "object.__class__") "__get__"=some (some (.builtin "getset_descriptor.__get__"))) (htk:PySem.W.takesIn K (.builtin "object.__class__")=some true)
      (hm:PySem.W.mroIn K C (.type "object")=some true):oA K H (.ref a) (.ref C)
end
structure c9 (k:Nat) (A:Around):Prop where
  hd:A.handled=none
  dp:A.depth+3*k+5 < recursionLimit
  un:A.units+16*k+200 < cLine
  gd:A.guards=some []
theorem c9.mono{j k:Nat}{A:Around}(r:c9 k A)(h:j≤k):c9 j A:=⟨r.hd,by have:=r.dp;lia,by have:=r.un;lia,r.gd⟩
theorem c9.deeper{k:Nat}{A:Around}(r:c9 (k+1) A)(env:Env):c9 k (A.deeper env):=
  ⟨r.hd,by have:=r.dp;show A.depth+1+3*k+5 < _;lia,by have:=r.un;show A.units+3+16*k+200 < _;lia,r.gd⟩
theorem c9.depth{k:Nat}{A:Around}(r:c9 k A):A.depth < recursionLimit:=by have:=r.dp;lia
theorem c9.units{k:Nat}{A:Around}(r:c9 k A):A.units+64 < cLine:=by have:=r.un;lia
def Cv:TA:=fun _ H Q=>Q [] H
def nL(ta:TE)(tr:TA):TA:=fun σ H Q=>ta σ H fun x H1=>tr σ H1 fun xs H2=>Q (x::xs) H2
section
variable{X:Cx}{e:Expr}{es:List Expr}{te:TE}{t:TA}{pos:Pos}
theorem jh:PA X [] Cv:=fun _ _ _ _ H Q I h=>Calls.spliced_nil ⟨[],H,I,.nil,h⟩
theorem eR(ha:PE X e te)(hr:PA X es t)(hs:starEach (e::es) X.env=(false,eval e X.env)::starEach es X.env:=by rfl):PA X (e::es) (nL te t):=by
  intro pos pins s σ H Q I h
  rw [hs]
  show wpAny _ _ (spliced ((false,eval e X.env)::backTo pos (starEach es X.env))) _ _ s
  refine Calls.spliced_cons (bS (ha pins s σ H _ I h) fun u s1 ⟨x,H1,I1,r1,q1⟩=>?_)
  exact bS (hr pos pins s1 σ H1 _ I1 q1) fun us s2 ⟨xs,H2,I2,r2,q2⟩=>⟨x::xs,H2,I2,.cons r1 r2,q2⟩
def GO(t:TA):TE:=fun σ H Q=>t σ H fun xs H1=>xs.length≤sizeLine∧∀p,H1 p=none→Q (.ref p) (a_ H1 p (.tup xs))
def GJ(t:TA):TE:=fun σ H Q=>t σ H fun xs H1=>xs.length≤sizeLine∧∀p,H1 p=none→Q (.ref p) (a_ H1 p (.lst xs))
theorem zY{x1}(h:PA X es t):PE X (.Tuple es x1 pos) (GO t):=by
  intro pins s σ H Q I hq
  refine wpAny_Tuple_spliced (bS (h pos pins s σ H _ I hq) fun us s1 ⟨xs,H1,I1,r,z,q⟩=>⟨by rw [←r.length];exact z,?_⟩)
  have hf:H1 ↑s1=none:=I1.hok.fresh ↥8
  refine⟨.ref ↑s1,a_ H1 ↑s1 (.tup xs),I1.laid (t':=s1.toks) (fun b u e=>Heap.get?_push_of_some _ e) ↥8 ?_,rfl,q _ hf⟩
  exact⟨z,us,r,⟨_,Heap.get?_push_size _ rfl,rfl,_,rfl,rfl⟩⟩
theorem zV(h:PA X es t):PE X (.List es pos) (GJ t):=by
  intro pins s σ H Q I hq
  refine wpAny_List_spliced (bS (h pos pins s σ H _ I hq) fun us s1 ⟨xs,H1,I1,r,z,q⟩=>⟨by rw [←r.length];exact z,?_⟩)
  have hf:H1 ↑s1=none:=I1.hok.fresh ↥8
  refine⟨.ref ↑s1,a_ H1 ↑s1 (.lst xs),I1.laid (t':=s1.toks) (fun b u e=>Heap.get?_push_of_some _ e) ↥8 ?_,rfl,q _ hf⟩
  exact⟨z,us,0,r,Heap.get?_push_size _ rfl⟩
end
abbrev Sp:=List V→Hp→VK→XK→Prop
abbrev rB:=List Env→Hp→Shared→XK→Value→Shared→Prop
structure Be (P:Program) (w:World) (K:⇑0) (mg:Str→Option Value) (base:Heap) (A:Around) (outer:List Env) (s:Shared) (H:Hp):Prop where
  frames:A.frames=some outer
  mod:Mod K mg base
  bs:∀b o,base.get? b=some o→s.heap.get? b=some o∧H b=none
  bsz:base.objs.size≤↑s
  funs:s.heap.FunFrames base outer
  frf:∀b∈iN outer,H b=none
  hok:nP P w H s.heap
  bare:AllBare s.gens
def CE(outer:List Env)(P:Program)(w:World)(H:Hp)(s:Shared)(Q:VK)(u:Value)(s':Shared):Prop:=
  ∃v H',s'.os=s.os∧AllBare s'.gens∧Un (iN outer) [] H H' s.heap s'.heap∧nP P w H' s'.heap∧bx v u∧Q v H'
def CR(CX:rB)(outer:List Env)(P:Program)(w:World)(H:Hp)(s:Shared)(Q:VK)(E:XK)(r:Result)(s':Shared):Prop:=
  match r with
  | .ok (.ret u)=>CE outer P w H s Q u s'
  | .ok _=>False
  | .error e=>CX outer H s E e s'
structure au (P:Program) (w:World) (K:⇑0) (mg:Str→Option Value) (base:Heap) (CX:rB) (k:Nat) (f:Addr) (fd:FuncData) (ps:List Str) (sp:Sp):Prop where
  len:∀vs H Q E,sp vs H Q E→vs.length=ps.length
  run:∀(A:Around) (outer:List Env) (s:Shared) (H:Hp) (args:Args) (us:List Value) (vs:List V) (Q:VK) (E:XK),c9 k A→Be P w K mg base A outer s H→BindsTo s fd args (ps.zip us)→aU vs us→sp vs H Q E→
    codeAny (model P w) A (.call (.ref f) args) (CR CX outer P w H s Q E) s
section
variable{X:Cx}{pins:List (Addr × Obj)}{σ:St}{H:Hp}{s s':Shared}
theorem aF.env0(I:aF X pins σ H s):Be X.prog X.w X.K X.mg X.base X.A X.stack s H:=
  ⟨I.ok.frames,I.ok.mod,I.bs,Nat.le_trans I.ok.bsz I.sz,I.stack,I.stkFree,I.hok,I.bare⟩
theorem aF.after{Q:VK}{u:Value}(I:aF X pins σ H s)(h:CE X.stack X.prog X.w H s Q u s'):EP X pins σ Q u s':=by
  obtain⟨v,H',os,bare,un,hok,r,q⟩:=h
  obtain⟨hh,g,d,t,os'⟩:=s'
  obtain rfl:os'=s.os:=os
  exact⟨v,H',I.call (h':=hh) (g':=g) (d':=d) (t':=t) (ch:=[]) un hok bare (fun b z=>absurd z ↥1),r,q⟩
end
def AU(sp:Sp)(dvs:List V)(E:XK)(t:TA):TE:=fun σ H Q=>t σ H fun vs H1=>sp (vs++dvs) H1 Q E
def ox(K:⇑0)(fd:FuncData)(ps:List Str)(ds:List Value):Prop:=
  ∀(s:Shared) (us:List Value),K.In s.heap→(us++ds).length=ps.length→BindsTo s fd ⟨us,[]⟩ (ps.zip (us++ds))
theorem ox.all{K:⇑0}{fd:FuncData}{ps:List Str}(h:∀us:List Value,us.length=ps.length→bindArgs fd ⟨us,[]⟩=pure (ps.zip us)):ox K fd ps []:=fun s us _ hl=>by
  rw [List.append_nil] at hl ⊢
  exact .of_eq (h us hl)
def uT(CX:rB)(X:Cx)(E:XK):Prop:=∀(pins:List (Addr × Obj)) (σ:St) (H:Hp) (s:Shared) (e:Value) (s':Shared),aF X pins σ H s→CX X.stack H s E e s'→X.xe e s'
section
variable{X:Cx}{CX:rB}{k:Nat}{f C:Addr}{fd:FuncData}{ps:List Str}{sp:Sp}{dvs:List V}{ds:List Value}{E:XK}{x m:Str}{p pos apos:Pos}{e o:Expr}{es:List Expr}{ta:TE}{t:TA}
theorem EX{pins:List (Addr × Obj)}{σ:St}{H:Hp}{s:Shared}{Q:VK}{us:List Value}{vs:List V}(F:au X.prog X.w X.K X.mg X.base CX k f fd ps sp)(hr:c9 k X.A)(hb:ox X.K fd ps ds)(hd:aU dvs ds)(hx:uT CX X E)
    (I:aF X pins σ H s)(r:aU vs us)(h:sp (vs++dvs) H Q E):wpAny (model X.prog X.w) X.A (call (.ref f) us) (EP X pins σ Q) X.xe s:=by
  have r2:aU (vs++dvs) (us++ds):=r.append hd
  have hl:(us++ds).length=ps.length:=by rw [←r2.length];exact F.len _ _ _ _ h
  refine wpAny_call (codeAny_mono (F.run X.A X.stack s H ⟨us,[]⟩ (us++ds) (vs++dvs) Q E hr I.env0 (hb s us I.kIn hl) r2 h) fun r s' hq=>?_)
  cases r with
  | error e=>exact hx pins σ H s e s' I hq
  | ok fl=>
    cases fl with
    | ret u=>exact I.after hq
    | next=>exact False.elim hq
    | brk=>exact False.elim hq
    | cont=>exact False.elim hq
theorem BY(F:au X.prog X.w X.K X.mg X.base CX k f fd ps sp)(hr:c9 k X.A)(hg:Gl X x)(hm:X.mg x=some (.ref f))(hk:PySem.W.keepIn X.K (.ref f)=true)(hb:ox X.K fd ps ds)(hd:aU dvs ds)(hx:uT CX X E)
    (ha:PA X (e::es) t)(hdb:(x==("__debug__":Str))=false:=by decide)(he:starEach (e::es) X.env=(false,eval e X.env)::starEach es X.env:=by rfl)(hpl:(backTo pos (starEach es X.env)).any (·.1)=false:=by rfl):
    PE X (.Call (.Name x p) (e::es) [] pos) (AU sp dvs E t):=by
  intro pins s σ H Q I h
  refine wpAny_Call_Name_kw (j' I hg hm ?_ hdb)
  refine PySem.W.callWith_K (h₀:=X.base) I.ok.mod.kin hk (bS (ha pos pins s σ H _ I h) fun us s1 ⟨vs,H1,I1,r,q⟩=>⟨I1.kIn,?_⟩) he hpl
  exact EX F hr hb hd hx I1 r q
structure Mk (K:⇑0) (C f:Addr):Prop where
  makes:PySem.W.makesIn K C=true
  init:PySem.W.findIn K (.ref C) "__init__"=some (some (.ref f))
  fn:PySem.W.isFn K (.ref f)=true
  kp:PySem.W.keepIn K (.ref C)=true
end
section
variable{X:Cx}{CX:rB}{k:Nat}{f C:Addr}{fd:FuncData}{ps ks:List Str}{sp:Sp}{E:XK}{x m:Str}{p pos apos kpos:Pos}{e o:Expr}{es:List Expr}{kws:List Keyword}{te ta:TE}{t tk:TA}{nm:Option Str}
structure G' (K:⇑0) (fd:FuncData) (ps ks:List Str) (g:List Value→List Value→List Value) (gV:List V→List V→List V):Prop where
  to:∀(s:Shared) (us ws:List Value),K.In s.heap→(g us ws).length=ps.length→BindsTo s fd ⟨us,ks.zip ws⟩ (ps.zip (g us ws))
  rel:∀{vs:List V} {us:List Value} {zs:List V} {ws:List Value},aU vs us→aU zs ws→aU (gV vs zs) (g us ws)
variable{g:List Value→List Value→List Value}{gV:List V→List V→List V}
end
structure ay (N P:List Str) (sc:Scope):Prop where
  kind:sc.kind=.function
  co:sc.isCoroutine=false
  gen:sc.isGenerator=false
  nd:N.Nodup
  pre:N.take P.length=P
  par:∀x∈P,sc.names.lookup x=some .local∨sc.names.lookup x=some .cell
  nofree:∀y∈sc.names,y.2≠.free
theorem qu{kindOf:Str→Option NameKind}{x:Str}:∀{binds:List (Str × Value)} {m:Str→Option Value},(∀v,(x,v)∉binds)→bindL kindOf binds m x=m x
  | [],_,_=>rfl
  | (n,v)::r,m,h=>by
    unfold bindL
    rw [qu fun w hw=>h w (List.mem_cons_of_mem _ hw)]
    split
    · have:x≠n:=by rintro rfl;exact h v List.mem_cons_self
      simp [this]
    · rfl
theorem qs{kindOf:Str→Option NameKind}{x:Str}:∀{binds:List (Str × Value)} {m:Str→Option Value},(∀v,(x,v)∉binds)→bindC kindOf binds m x=m x
  | [],_,_=>rfl
  | (n,v)::r,m,h=>by
    unfold bindC
    rw [qs fun w hw=>h w (List.mem_cons_of_mem _ hw)]
    split
    · rfl
    · have:x≠n:=by rintro rfl;exact h v List.mem_cons_self
      simp [this]
theorem qt{kindOf:Str→Option NameKind}{x:Str}{v:Value}:∀{P:List Str} {vs:List Value} {i:Nat} {m:Str→Option Value},P.Nodup→P[i]?=some x→vs[i]?=some v→kindOf x=some .local→
    bindL kindOf (P.zip vs) m x=some v
  | [],_,_,_,_,h,_,_=>by simp at h
  | _::_,[],_,_,_,_,h,_=>by simp at h
  | p::P,w::vs,0,m,nd,h1,h2,hk=>by
    simp at h1 h2;subst h1;subst h2
    show bindL kindOf ((p,w)::P.zip vs) m p=_
    unfold bindL
    rw [qu fun v hv=>(List.nodup_cons.mp nd).1 (List.of_mem_zip hv).1,if_pos hk]
    simp
  | p::P,w::vs,i+1,m,nd,h1,h2,hk=>by
    show bindL kindOf ((p,w)::P.zip vs) m x=_
    unfold bindL
    exact qt (i:=i) (List.nodup_cons.mp nd).2 (by simpa using h1) (by simpa using h2) hk
theorem qq{kindOf:Str→Option NameKind}{x:Str}{v:Value}:∀{P:List Str} {vs:List Value} {i:Nat} {m:Str→Option Value},P.Nodup→P[i]?=some x→vs[i]?=some v→kindOf x≠some .local→
    bindC kindOf (P.zip vs) m x=some v
  | [],_,_,_,_,h,_,_=>by simp at h
  | _::_,[],_,_,_,_,h,_=>by simp at h
  | p::P,w::vs,0,m,nd,h1,h2,hk=>by
    simp at h1 h2;subst h1;subst h2
    show bindC kindOf ((p,w)::P.zip vs) m p=_
    unfold bindC
    rw [qs fun v hv=>(List.nodup_cons.mp nd).1 (List.of_mem_zip hv).1,if_neg hk]
    simp
  | p::P,w::vs,i+1,m,nd,h1,h2,hk=>by
    show bindC kindOf ((p,w)::P.zip vs) m x=_
    unfold bindC
    exact qq (i:=i) (List.nodup_cons.mp nd).2 (by simpa using h1) (by simpa using h2) hk
def eG(N:List Str)(vs:List V):St:=vs.map some++List.replicate (N.length - vs.length) none
def eK(CX:rB)(P:Program)(w:World)(K:⇑0)(mg:Str→Option Value)(base:Heap)(N:List Str)(qual:Str)(scope:Scope)(f:Addr)(cd:Value)(A:Around)(outer:List Env)(s:Shared)(H:Hp)(E:XK):Cx where
  prog:=P
  w:=w
  K:=K
  mg:=mg
  base:=base
  A:=A.deeper (envOfC qual scope ↑s f cd)
  N:=N
  s₀:=s
  H₀:=H
  env:=envOfC qual scope ↑s f cd
  outer:=outer
  stack:=envOfC qual scope ↑s f cd::outer
  ex:=[]
  calm:=true
  fn:=fun _=>true
  pn:=[]
  xe:=fun e s'=>wpAny (model P w) (A.deeper (envOfC qual scope ↑s f cd)) (leaving (envOfC qual scope ↑s f cd) e) (fun _ s''=>CX outer H s E e s'') (fun e' s''=>CX outer H s E e' s'') s'
theorem tG{sc:Scope}{n:Nat}{x:Str}(h:sc.names.lookup x=some .cell):∃c,(cellsFrom n sc.names []).lookup x=some c:=by
  have q:=PySem.W.cellsFrom_some sc.names n [] (.inl h)
  exact Option.isSome_iff_exists.mp q
theorem xS{CX:rB}{P:Program}{w:World}{K:⇑0}{mg:Str→Option Value}{base:Heap}{N ps:List Str}{qual:Str}{scope:Scope}{f:Addr}{cd:Value}{A:Around}{outer:List Env}{s s1:Shared}{H:Hp}{E:XK}{us:List Value}{vs:List V}
    (S:ay N ps scope)(hd:A.handled=none)(e0:Be P w K mg base A outer s H)(hl:vs.length=ps.length)(r:aU vs us)
    (x:InCallC s ↑s (bindL (envOfC qual scope ↑s f cd).kindOf (ps.zip us) fun _=>none) (cellsFrom (↑s+1) scope.names []) (bindC (envOfC qual scope ↑s f cd).kindOf (ps.zip us) fun _=>none) s1):
    aF (eK CX P w K mg base N qual scope f cd A outer s H E) [] (eG N vs) H s1:=by
  have hpl:ps.length≤N.length:=by have:=congrArg List.length S.pre;rw [List.length_take] at this;lia
  obtain⟨h1,tk,rfl,hk⟩:=x.done
  have noA:∀b:Addr,b∉(eK CX P w K mg base N qual scope f cd A outer s H E).ex:=fun b z=>absurd (show b∈([]:List Addr) from z) ↥1
  refine⟨⟨e0.mod,S.kind,rfl,rfl,Nat.le_refl _,fun y z c h1 h2=>?_,fun y hy=>?_,fun y c _ h=>?_,fun _=>hd,Around.frames_deeper e0.frames,.inr ⟨rfl,rfl⟩,fun b z=>absurd z (noA b),e0.bs,e0.bsz,fun b _ _=>noA b,fun b z=>absurd z (noA b),e0.funs,e0.frf⟩,
    rfl,e0.bare,Un.kept hk,⟨_,x.toInCall.ns,fun i y v h1 h2 h3=>?_⟩,fun y c h=>⟨_,x.cell y c h⟩,e0.hok.fresh ↥8,fun y c h=>?_,fun p hp=>absurd (show p∈([]:List (Addr × Obj)) from hp) ↥1,e0.hok.kept hk,?_⟩
  · exact name_of_addr x.apart (PySem.mem_of_lookup h1) (PySem.mem_of_lookup h2)
  · have hy:scope.names.lookup y=some .cell∨scope.names.lookup y=some .free:=hy
    rcases hy with hy | hy
    · exact tG hy
    · exact absurd rfl (S.nofree _ (PySem.mem_of_lookup hy))
  · exact Nat.le_of_lt (x.above y c (PySem.mem_of_lookup h))
  · have hi:i < vs.length:=by
      unfold eG at h2
      by_cases hi:i < vs.length
      · exact hi
      · rw [List.getElem?_append_right (by simpa using hi)] at h2
        rw [List.getElem?_replicate] at h2
        split at h2<;>cases h2
    have ha:vs[i]?=some v:=by
      unfold eG at h2
      rw [List.getElem?_append_left (by simpa using hi),List.getElem?_map] at h2
      cases e:vs[i]? with
      | none=>rw [e] at h2;cases h2
      | some a=>rw [e] at h2;cases h2;rfl
    obtain⟨u,hu,rv⟩:=r.get ha
    have hp:ps[i]?=some y:=by
      rw [←S.pre,List.getElem?_take_of_lt ↥0];exact h1
    have ndP:ps.Nodup:=by rw [←S.pre];exact S.nd.sublist (List.take_sublist _ _)
    refine⟨u,rv,?_⟩
    rcases S.par y (LK hp) with k | k
    · exact .inl ⟨k,qt ndP hp hu k⟩
    · obtain⟨c,e⟩:=tG (n:=↑s+1) k
      refine .inr ⟨.inl k,c,e,?_⟩
      have q:=x.cell y c e
      rw [qq ndP hp hu (by show scope.names.lookup y≠_;rw [k];decide)] at q
      exact q
  · exact e0.hok.fresh (Nat.le_of_lt (x.above y c (PySem.mem_of_lookup h)))
  · unfold eG
    show _=N.length
    rw [List.length_append,List.length_map,List.length_replicate]
    lia
theorem C6{CX:rB}{P:Program}{w:World}{K:⇑0}{mg:Str→Option Value}{base:Heap}{k:Nat}{f:Addr}{name qual:Str}{params:Arguments}{body:List Stmt}{scope:Scope}{dV kV doc pm cdv ct oc:Value}{an od:Option Addr}
    {osl:Array (Option Value)}{N ps:List Str}{sp:Sp}(lk:K.lookup f=some ⟨oc,od,.func (PySem.W.fnOf name qual params body scope dV kV doc pm an cdv ct),osl⟩)(hcd:PySem.W.codeIn K cdv qual=true)(S:ay N ps scope)
    (len:∀vs H Q E,sp vs H Q E→vs.length=ps.length)
    (hbody:∀(A:Around) (outer:List Env) (s:Shared) (H:Hp) (vs:List V) (Q:VK) (E:XK),c9 k (A.deeper (envOfC qual scope ↑s f cdv))→sp vs H Q E→
      ∃t,lp (eK CX P w K mg base N qual scope f cdv A outer s H E) body t∧t {nx:=fun _ H'=>Q .non H',rt:=Q} (eG N vs) H):
    au P w K mg base CX (k+1) f (PySem.W.fnOf name qual params body scope dV kV doc pm an cdv ct) ps sp:=by
  refine⟨len,fun A outer s H args us vs Q E hr e0 hb r hsp=>?_⟩
  have hl:=len _ _ _ _ hsp
  have KX:K.In s.heap:=e0.mod.kin.keeps fun b o e=>(e0.bs b o e).1
  have lim:s.heap.NoLimit:=e0.mod.nolimit.keeps fun b o e=>(e0.bs b o e).1
  have hkind:∀y∈ps.zip us,scope.names.lookup y.1=some .local∨(scope.names.lookup y.1=some .cell∧((cellsFrom (↑s+1) scope.names []).lookup y.1).isSome=true):=fun⟨n,v⟩ hy=>by
    rcases S.par n (List.of_mem_zip hy).1 with q | q
    · exact .inl q
    · exact .inr ⟨q,PySem.W.cellsFrom_some _ _ _ (.inl q)⟩
  refine codeAny_call_function hr.depth (KX _ _ lk) rfl S.co S.gen rfl (PySem.W.codeRec_of KX hcd) (hb _ _ _ _ ?_)
  refine wpAny_newFunctionEnv_cells S.kind hkind fun env he s1 x=>?_
  subst he
  refine⟨lim.keeps x.toInCall.keep,codeAny_func ?_⟩
  obtain⟨t,ht,hq⟩:=hbody A outer s H vs Q E (hr.deeper _) hsp
  have I:aF (eK CX P w K mg base N qual scope f cdv A outer s H E) [] (eG N vs) H s1:=xS S hr.hd e0 hl r x
  refine wpAny_mono (ht [] s1 (eG N vs) H _ I hq) (fun fl s' hs=>?_) fun e s' hs=>hs
  have fin:∀{σ':St} {H':Hp} {v:V} {u:Value},aF (eK CX P w K mg base N qual scope f cdv A outer s H E) [] σ' H' s'→bx v u→Q v H'→CE outer P w H s Q u s':=
    fun{σ' H' v u} J rv q=>⟨v,H',J.os,J.bare,J.base,J.hok,rv,q⟩
  cases fl with
  | ret u=>
    obtain⟨v,σ',H',J,rv,q⟩:=hs
    exact fin J rv q
  | next=>
    obtain⟨σ',H',J,q⟩:=hs
    exact fin (v:=V.non) (u:=Value.none) J rfl q
  | brk=>
    obtain⟨_,_,_,q⟩:=hs
    exact False.elim q
  | cont=>
    obtain⟨_,_,_,q⟩:=hs
    exact False.elim q
section
variable{X:Cx}{x:Str}{p pos:Pos}{e:Expr}{es:List Expr}{t:TA}{id T:String}{r:List V→Hp→VK→Prop}
def HF(r:List V→Hp→VK→Prop)(t:TA):TE:=fun σ H Q=>t σ H fun vs H1=>r vs H1 Q
theorem lT(hc:dW X (.builtin id) r)(hg:Gl X x)(hm:X.mg x=none)(hv:bootBuiltins x=some (.builtin id))(ha:PA X (e::es) t)(hn:x≠"__name__":=by decide)(hdb:(x==("__debug__":Str))=false:=by decide)
    (he:starEach (e::es) X.env=(false,eval e X.env)::starEach es X.env:=by rfl)(hpl:(backTo pos (starEach es X.env)).any (·.1)=false:=by rfl):PE X (.Call (.Name x p) (e::es) [] pos) (HF r t):=by
  intro pins s σ H Q I h
  refine wpAny_Call_Name_kw (iD I hg hm hv ?_ hn hdb)
  exact PyProof.Rows.callWith_builtin1 (bS (ha pos pins s σ H _ I h) fun us s1 ⟨vs,H1,I1,r1,q1⟩=>hc pins s1 σ H1 vs us Q I1 r1 q1) he hpl
theorem x9(hc:dW X (.type T) r)(hg:Gl X x)(hm:X.mg x=none)(hv:bootBuiltins x=some (.type T))(ha:PA X (e::es) t)(hn:x≠"__name__":=by decide)(hdb:(x==("__debug__":Str))=false:=by decide)
    (he:starEach (e::es) X.env=(false,eval e X.env)::starEach es X.env:=by rfl)(hpl:(backTo pos (starEach es X.env)).any (·.1)=false:=by rfl):PE X (.Call (.Name x p) (e::es) [] pos) (HF r t):=by
  intro pins s σ H Q I h
  refine wpAny_Call_Name_kw (iD I hg hm hv ?_ hn hdb)
  exact PyProof.Rows.callWith_type1 (bS (ha pos pins s σ H _ I h) fun us s1 ⟨vs,H1,I1,r1,q1⟩=>hc pins s1 σ H1 vs us Q I1 r1 q1) he hpl
end
end L2
namespace HT
open PySem PyProof.Rows
section
open PySem.SeqAt
open PySem.AutoSeq1 (wpAny_loadPart')
open PySem.MeetsSeq PySem.MeetsSeq2 PySem.MeetsSeq3
end
section
variable{prog:Program}{w:World}{A:Around}{E:Value→Shared→Prop}{s:Shared}
theorem cat_tup{t b:Addr}{vs ws:List Value}{Q:Value→Shared→Prop}(ht:IsTup s.heap t vs.toArray)(hb:IsTup s.heap b ws.toArray)(hv:vs≠[])
    (h1:ws=[]→Q (.ref t) s)(h2:ws≠[]→Q (.ref ↑s) {s with heap:=s.heap.push {cls:=.type "tuple",data:=.seq (vs++ws).toArray}})
    (hsz:vs.length+ws.length≤sizeLine):wpAny (model prog w) A (binaryOp .Add (.ref t) (.ref b)) Q E s:=by
  obtain⟨⟨cls,dd,data,sl⟩,ho,hc,n,hd⟩:=id ht
  obtain⟨⟨cls2,dd2,data2,sl2⟩,ho2,hc2,n2,hd2⟩:=id hb
  simp only at hc hd hc2 hd2
  subst hc hd hc2 hd2
  have e:vs.toArray++ws.toArray=(vs++ws).toArray:=by simp
  by_cases hw:ws=[]
  · exact concat_meets ⟨_,ho,rfl⟩ ⟨_,ho2,rfl⟩ noFill_tuple_add seq_tuple_add PySem.F.slot_tuple_add PySem.F.entry_tuple_add (PySem.F.args_tuple_add_2 _ _)
      (tuple_addW1 t b vs.toArray ws.toArray n n2 dd dd2 sl sl2 (by simpa using hv) (by simp [hw])) ⟨ho,ho2,h1 hw⟩
  · refine concat_meets ⟨_,ho,rfl⟩ ⟨_,ho2,rfl⟩ noFill_tuple_add seq_tuple_add PySem.F.slot_tuple_add PySem.F.entry_tuple_add (PySem.F.args_tuple_add_2 _ _)
      (tuple_addW2 t b vs.toArray ws.toArray n n2 dd dd2 sl sl2 (by simpa using hv) (by simpa using hw) (by rw [List.size_toArray,List.size_toArray];exact hsz)) ⟨ho,ho2,?_⟩
    rw [e]
    exact h2 hw
def sIx(n d:Nat):Option Int→Nat
  | none=>d
  | some v=>if v < 0 then(v+(n:Int)).toNat else min v.toNat n
theorem sIx_none(n d:Nat):sIx n d none=d:=rfl
theorem sIx_nat(n d k:Nat):sIx n d (some (k:Int))=min k n:=by
  show(if (k:Int) < 0 then((k:Int)+(n:Int)).toNat else min (k:Int).toNat n)=min k n
  rw [if_neg ↥0,Int.toNat_natCast]
theorem EY(n d:Nat)(hd:d≤n)(o:Option Int):sIx n d o≤n:=by
  cases o with
  | none=>exact hd
  | some v=>
    show(if v < 0 then(v+(n:Int)).toNat else min v.toNat n)≤n
    by_cases hv:v < 0
    · rw [if_pos hv];lia
    · rw [if_neg hv];exact Nat.min_le_right _ _
theorem wB(v:Int)(n d:Nat):(if v < 0 then max (v+(n:Int)) 0 else min v (n:Int))=((sIx n d (some v):Nat):Int):=by
  show(if v < 0 then max (v+(n:Int)) 0 else min v (n:Int))=(((if v < 0 then(v+(n:Int)).toNat else min v.toNat n):Nat):Int)
  by_cases hv:v < 0
  · simp only [if_pos hv];lia
  · simp only [if_neg hv];lia
theorem uU(lo hi:Option Int)(n:Nat):Builtin.Slice.sliceAdjust lo hi 1 (n:Int)=(((sIx n 0 lo:Nat):Int),((sIx n n hi:Nat):Int)):=by
  have h1:¬((1:Int) < 0):=by lia
  unfold Builtin.Slice.sliceAdjust
  simp only [h1,if_false]
  refine Prod.ext ?_ ?_
  · cases lo with
    | none=>rfl
    | some v=>exact wB v n 0
  · cases hi with
    | none=>rfl
    | some v=>exact wB v n n
theorem vB(i j:Nat):Builtin.Slice.slicePlaces (i:Int) (j:Int) 1=j - i:=by
  unfold Builtin.Slice.slicePlaces
  have h1:(1:Int) > 0:=by lia
  simp only [h1,if_true,Int.ediv_one]
  split<;>lia
theorem pR{v:Value}{o:Option Int}{Q:Option Int→Shared→Prop}(p:IsPart v o)(h:Q o s):wpAny (model prog w) A (Builtin.Slice.slicePartIndex v) Q E s:=by
  cases p with
  | none=>exact slicePart_none h
  | int i t=>exact slicePart_int h
theorem i0{sl:Addr}{vl vu:Value}{lo hi:Option Int}{n:Nat}{Q:Int × Int × Nat→Shared→Prop}(hs:s.heap.IsSliceOf sl vl vu .none)(pl:IsPart vl lo)(pu:IsPart vu hi)
    (h:Q (((sIx n 0 lo:Nat):Int),1,sIx n n hi - sIx n 0 lo) s):wpAny (model prog w) A (Builtin.Slice.sliceApplied (.ref sl) (pure (n:Int))) Q E s:=by
  obtain⟨os,hos,hcs,hds⟩:=id hs
  unfold Builtin.Slice.sliceApplied Builtin.Slice.sliceFields
  refine wpAny_bind (wpAny_bind (wpAny_field hos hds (x:=vl) rfl (wpAny_bind (wpAny_field hos hds (x:=vu) rfl (wpAny_bind (wpAny_field hos hds (x:=.none) rfl (wpAny_pure ?_)))))))
  refine wpAny_bind (slicePart_none ?_)
  show wpAny _ _ (if ((1:Int)==0)=true then _ else _) _ _ s
  rw [if_neg ⋯]
  refine wpAny_bind (pR pl (wpAny_bind (pR pu (wpAny_bind (wpAny_pure ?_)))))
  show wpAny _ _ (match Builtin.Slice.sliceAdjust lo hi 1 (n:Int) with | (lo,hi)=>pure (lo,(1:Int),Builtin.Slice.slicePlaces lo hi 1)) _ _ s
  rw [uU lo hi n]
  show wpAny _ _ (pure (((sIx n 0 lo:Nat):Int),(1:Int),Builtin.Slice.slicePlaces ((sIx n 0 lo:Nat):Int) ((sIx n n hi:Nat):Int) 1)) _ _ s
  rw [vB]
  exact wpAny_pure h
theorem Af(xs:Array Value)(i k:Nat):((List.range k).filterMap fun(m:Nat)=>xs[((i:Int)+(m:Int)*1).toNat]?).toArray=((xs.toList.drop i).take k).toArray:=by
  have e:(fun(m:Nat)=>xs[((i:Int)+(m:Int)*1).toNat]?)=fun m=>xs[i+m]?:=by
    funext m
    have:((i:Int)+(m:Int)*1).toNat=i+m:=by lia
    rw [this]
  rw [e]
  have:=pick_run xs i k
  rw [List.filterMap_map] at this
  have e2:((fun x=>xs[x]?) ∘ fun x=>i+x)=fun m=>xs[i+m]?:=rfl
  rw [e2] at this
  rw [this]
theorem getItem_tuple_cut{t sl:Addr}{items:Array Value}{vl vu:Value}{lo hi:Option Int}{Q:Value→Shared→Prop}(ht:IsTup s.heap t items)(hs:s.heap.IsSliceOf sl vl vu .none)(pl:IsPart vl lo)(pu:IsPart vu hi)
    (hw:¬(sIx items.size 0 lo=0∧sIx items.size items.size hi=items.size))
    (h:Q (.ref ↑s) {s with heap:=s.heap.push {cls:=.type "tuple",data:=.seq ((items.toList.drop (sIx items.size 0 lo)).take (sIx items.size items.size hi - sIx items.size 0 lo)).toArray}})
    (hsz:items.size≤sizeLine):wpAny (model prog w) A (getItem (.ref t) (.ref sl)) Q E s:=by
  have htake:sizeOk (.seq ((items.toList.drop (sIx items.size 0 lo)).take (sIx items.size items.size hi - sIx items.size 0 lo)).toArray):=by
    show((items.toList.drop (sIx items.size 0 lo)).take (sIx items.size items.size hi - sIx items.size 0 lo)).toArray.size≤sizeLine
    rw [List.size_toArray,List.length_take,List.length_drop,Array.length_toList]
    lia
  have hj:sIx items.size items.size hi≤items.size:=EY _ _ ↥8 hi
  obtain⟨os,hos,hcs,hds⟩:=id hs
  have hTs:s.TypeIs (.ref sl) "slice":=⟨os,hos,hcs⟩
  unfold getItem
  try with_reducible refine wpAny_holding ?_
  first | refine wpAny_bind (wpAny_pure ?_) | skip
  refine wpAny_bind (wpAny_sequenceKey ht.typeIs ⋯ ?_)
  refine wpAny_bind (wpAny_callSpecial?_slot (name:=Str.ofString "__getitem__") ht.typeIs PyProof.Rows.slot_tuple_getitem
    (wpAny_call_entry PyProof.Rows.slot_tuple_getitem ht.typeIs entry_tuple_getitem ?_ (args_tuple_getitem _ _)))
  show wpAny _ _ (Builtin.Tuple.tupleItemsOf (.ref t) >>= _) _ _ s
  refine wpAny_bind (tupleItemsOf_ ht ?_)
  refine wpAny_bind (wpAny_typeOf hTs ?_)
  rw [if_pos ⋯]
  refine wpAny_bind (i0 hs pl pu ?_)
  have hno:¬((((sIx items.size 0 lo:Nat):Int)==0&&(1:Int)==1&&(sIx items.size items.size hi - sIx items.size 0 lo)==items.size)=true):=by
    intro q
    rw [Bool.and_eq_true,Bool.and_eq_true] at q
    have q1:((sIx items.size 0 lo:Nat):Int)=0:=eq_of_beq q.1.1
    have q2:sIx items.size items.size hi - sIx items.size 0 lo=items.size:=eq_of_beq q.2
    exact hw ⟨by lia,by lia⟩
  show wpAny _ _ (if (((sIx items.size 0 lo:Nat):Int)==0&&(1:Int)==1&&(sIx items.size items.size hi - sIx items.size 0 lo)==items.size)=true then _ else _) _ _ s
  rw [if_neg hno,Af]
  first
    | exact wpAny_bind (m:=Builtin.Tuple.tupleExact _) (wpAny_newObj_type (wpAny_pure ⟨_,rfl,wpAny_pure h⟩) htake)
    | exact wpAny_bind (m:=Builtin.Tuple.tupleExact _) (wpAny_newObj_type (wpAny_bind (wpAny_pure (wpAny_pure ⟨_,rfl,wpAny_pure h⟩))) htake)
    | exact wpAny_bind (wpAny_bind (m:=Builtin.Tuple.tupleExact _) (wpAny_newObj_type (wpAny_pure (wpAny_pure ⟨_,rfl,wpAny_pure h⟩)) htake))
    | exact wpAny_bind (wpAny_bind (m:=Builtin.Tuple.tupleExact _) (wpAny_newObj_type (wpAny_pure ⟨_,rfl,wpAny_pure h⟩) htake))
end
end HT
namespace L2
open PySem PySem.Spec PyProof.Rows
abbrev TO:=St→Hp→(Option Int→Hp→Prop)→Prop
def PO(X:Cx)(e:Option Expr)(t:TO):Prop:=
  ∀(pins:List (Addr × Obj)) (s:Shared) (σ:St) (H:Hp) (Q:Option Int→Hp→Prop),aF X pins σ H s→t σ H Q→
    wpAny (model X.prog X.w) X.A (evalPart e X.env) (fun u s'=>∃o H',aF X pins σ H' s'∧IsPart u o∧Q o H') X.xe s
def Cw:TO:=fun _ H Q=>Q none H
def GL(t:TE):TO:=fun σ H Q=>t σ H fun x H1=>∃i,x=.int i∧Q (some i) H1
theorem oP{ns:List Int}:∀{us:List Value},aU (ns.map V.int) us→IntsAre us ns:=by
  induction ns with
  | nil=>intro us r;rw [List.map_nil] at r;cases r;exact .nil
  | cons n ns ih=>
    intro us r
    rw [List.map_cons] at r
    cases r with
    | cons r1 r2=>
      obtain⟨t,e⟩:=r1
      subst e
      exact .cons n t (ih r2)
section
variable{X:Cx}{e:Expr}{te:TE}{lo hi:Option Expr}{tl th:TO}{pos p2:Pos}
theorem B6:PO X none Cw:=by
  intro pins s σ H Q I h
  rw [evalPart_none]
  exact wpAny_pure ⟨none,H,I,.none,h⟩
theorem B7(h:PE X e te):PO X (some e) (GL te):=by
  intro pins s σ H Q I hw
  rw [evalPart_some]
  refine bS (h pins s σ H _ I hw) fun u s1 ⟨x,H1,I1,r1,q1⟩=>?_
  obtain⟨i,rfl,q⟩:=q1
  obtain⟨t,rfl⟩:=r1
  exact⟨some i,H1,I1,.int i t,q⟩
def Bf(X:Cx)(r:V→Option Int→Option Int→Hp→VK→Prop):Prop:=
  ∀(pins:List (Addr × Obj)) (s:Shared) (σ:St) (H:Hp) (x:V) (v vl vu:Value) (lo hi:Option Int) (sl:Addr) (Q:VK),aF X pins σ H s→bx x v→s.heap.IsSliceOf sl vl vu .none→IsPart vl lo→IsPart vu hi→r x lo hi H Q→
    ∃T id,typeLookup (.type T) "__getitem__"=pure (some (.builtin id))∧s.TypeIs v T∧wpAny (model X.prog X.w) X.A (getItem v (.ref sl)) (EP X pins σ Q) X.xe s
theorem Bf.or{r r':V→Option Int→Option Int→Hp→VK→Prop}(h:Bf X r)(h':Bf X r'):Bf X (fun x lo hi H Q=>r x lo hi H Q∨r' x lo hi H Q):=by
  intro pins s σ H x v vl vu lo hi sl Q I rx hs pl pu q
  rcases q with q | q
  · exact h pins s σ H x v vl vu lo hi sl Q I rx hs pl pu q
  · exact h' pins s σ H x v vl vu lo hi sl Q I rx hs pl pu q
def Iq(r:V→Option Int→Option Int→Hp→VK→Prop)(te:TE)(tl th:TO):TE:=fun σ H Q=>te σ H fun x H1=>tl σ H1 fun l H2=>th σ H2 fun u H3=>r x l u H3 Q
theorem zW{r:V→Option Int→Option Int→Hp→VK→Prop}(hr:Bf X r)(he:PE X e te)(hl:PO X lo tl)(hu:PO X hi th):PE X (.Subscript e (.Slice lo hi none p2) pos) (Iq r te tl th):=by
  intro pins s σ H Q I h
  refine Subscript_ (bS (he pins s σ H _ I h) fun v s1 ⟨x,H1,I1,r1,q1⟩=>?_)
  refine wpAny_Slice (bS (hl pins s1 σ H1 _ I1 q1) fun vl s2 ⟨l,H2,I2,pl,q2⟩=>bS (hu pins s2 σ H2 _ I2 q2) fun vu s3 ⟨u,H3,I3,pu,q3⟩=>?_)
  rw [evalPart_none]
  refine wpAny_pure ?_
  have I4:aF X pins σ H3 {s3 with heap:=s3.heap.push {cls:=.type "slice",data:=.fields #[vl,vu,.none]}}:=I3.kept (t':=s3.toks) fun b ob q=>Heap.get?_push_of_some _ q
  obtain⟨T,id,hT,ht,hg⟩:=hr pins {s3 with heap:=s3.heap.push {cls:=.type "slice",data:=.fields #[vl,vu,.none]}} σ H3 x v vl vu l u ↑s3 Q I4 r1 (Heap.IsSliceOf.new ..) pl pu q3
  show wpAny (model X.prog X.w) X.A (subscriptTail e (.Slice lo hi none p2) v (.ref ↑s3)) (EP X pins σ Q) X.xe {s3 with heap:=s3.heap.push {cls:=.type "slice",data:=.fields #[vl,vu,.none]}}
  exact tail_any (ops:=[.ref ↑s3,v]) ht hT hg (by with_unfolding_all rfl)
def p8(xs:List V)(lo hi:Option Int):List V:=(xs.drop (HT.sIx xs.length 0 lo)).take (HT.sIx xs.length xs.length hi - HT.sIx xs.length 0 lo)
theorem m4(xs:List V)(lo hi:Option Int):(p8 xs lo hi).length≤xs.length:=by
  unfold p8
  rw [List.length_take,List.length_drop]
  lia
def Gs(K:⇑0):V→Option Int→Option Int→Hp→VK→Prop:=fun x lo hi H Q=>∃a xs,x=.ref a∧cm K H a xs∧
  ¬(HT.sIx xs.length 0 lo=0∧HT.sIx xs.length xs.length hi=xs.length)∧∀p,H p=none→Q (.ref p) (a_ H p (.tup (p8 xs lo hi)))
theorem E2:Bf X (Gs X.K):=by
  intro pins s σ H x v vl vu lo hi sl Q I rx hs pl pu h
  obtain⟨a,xs,rfl,hx,hw,q⟩:=h
  cases rx
  obtain⟨its,r,ht,hz⟩:=I.tuple hx
  have hlen:its.toArray.size=xs.length:=by rw [List.size_toArray];exact r.length.symm
  refine⟨"tuple",_,PyProof.Rows.slot_tuple_getitem.lookup,ht.typeIs,?_⟩
  refine HT.getItem_tuple_cut ht hs pl pu (by rw [hlen];exact hw) ?_ (by rw [hlen];exact hz)
  rw [hlen]
  refine⟨.ref ↑s,_,I.laid (t':=s.toks) (o:=.tup (p8 xs lo hi)) (fun b ob q=>Heap.get?_push_of_some _ q) ↥8 ?_,rfl,q _ (I.hok.fresh ↥8)⟩
  exact⟨Nat.le_trans (m4 xs lo hi) hz,_,(r.drop (HT.sIx xs.length 0 lo)).take (HT.sIx xs.length xs.length hi - HT.sIx xs.length 0 lo),kN.new _ _⟩
def Gk(K:⇑0):R2:=fun x y H Q=>∃a b xs ys,x=.ref a∧y=.ref b∧cm K H a xs∧cm K H b ys∧xs≠[]∧xs.length+ys.length≤sizeLine∧
  (ys=[]→Q (.ref a) H)∧(ys≠[]→∀p,H p=none→Q (.ref p) (a_ H p (.tup (xs++ys))))
theorem aU.nil_iff{xs:List V}{us:List Value}(r:aU xs us):us=[]↔ xs=[]:=by
  cases r with
  | nil=>simp
  | cons _ _=>simp
theorem BP:jv X (binaryOp .Add) (Gk X.K):=by
  intro pins s σ H x y v u Q I rx ry h
  obtain⟨a,b,xs,ys,rfl,rfl,ha,hb,hx,hz,q1,q2⟩:=h
  cases rx
  cases ry
  obtain⟨its,r1,p1,_⟩:=I.tuple ha
  obtain⟨its2,r2,p2,_⟩:=I.tuple hb
  refine HT.cat_tup p1 p2 (fun z=>hx (r1.nil_iff.mp z)) (fun z=>⟨.ref a,H,I,rfl,q1 (r2.nil_iff.mp z)⟩) (fun z=>?_) (by rw [←r1.length,←r2.length];exact hz)
  refine⟨.ref ↑s,_,I.laid (t':=s.toks) (o:=.tup (xs++ys)) (fun b ob q=>Heap.get?_push_of_some _ q) ↥8 ?_,rfl,q2 (fun w=>z (r2.nil_iff.mpr w)) _ (I.hok.fresh ↥8)⟩
  exact⟨by rw [List.length_append];exact hz,_,r1.append r2,kN.new _ _⟩
end
def r6(n:Nat)(i:Int):Option Nat:=if 0≤i then(if i < n then some i.toNat else none) else if -(n:Int)≤i then some (i+n).toNat else none
def atI{α:Type}(xs:List α)(i:Int):Option α:=(r6 xs.length i).bind fun j=>xs[j]?
theorem wK{n:Nat}{i:Int}{j:Nat}(h:r6 n i=some j):seqIndex? i n=some j∧j < n∧ -(n:Int)≤i∧i < n:=by
  unfold r6 at h
  by_cases h0:0≤i
  · rw [if_pos h0] at h
    by_cases h1:i < n
    · rw [if_pos h1] at h
      have e:i.toNat=j:=Option.some.inj h
      exact⟨by rw [seqIndex_of h0 h1,e],by lia,by lia,h1⟩
    · rw [if_neg h1] at h;cases h
  · rw [if_neg h0] at h
    by_cases h1: -(n:Int)≤i
    · rw [if_pos h1] at h
      have e:(i+n).toNat=j:=Option.some.inj h
      exact⟨by rw [seqIndex_neg ↥0 h1,e],by lia,h1,by lia⟩
    · rw [if_neg h1] at h;cases h
theorem wn{α:Type}{xs:List α}{i:Int}{v:α}(h:atI xs i=some v):∃j,seqIndex? i xs.length=some j∧xs[j]?=some v∧j < xs.length∧ -(xs.length:Int)≤i∧i < xs.length:=by
  unfold atI at h
  cases e:r6 xs.length i with
  | none=>rw [e] at h;cases h
  | some j=>
    rw [e] at h
    obtain⟨h1,h2,h3,h4⟩:=wK e
    exact⟨j,h1,h,h2,h3,h4⟩
def nX(b:Expr):Prop:=∀o i,subscripted b false o i=operate [o,i] (getItem o i)
def A8(X:Cx)(r:R2):Prop:=
  ∀(value slice:Expr) (pins:List (Addr × Obj)) (s:Shared) (σ:St) (H:Hp) (x y:V) (v u:Value) (Q:VK),aF X pins σ H s→bx x v→bx y u→r x y H Q→
    subscripted slice false v u=operate [v,u] (getItem v u)→wpAny (model X.prog X.w) X.A (subscriptTail value slice v u) (EP X pins σ Q) X.xe s
def HN(X:Cx)(id:String)(r:V→List V→Hp→VK→Prop):Prop:=
  ∀(pins:List (Addr × Obj)) (s:Shared) (σ:St) (H:Hp) (x:V) (xs:List V) (v:Value) (us:List Value) (Q:VK),aF X pins σ H s→bx x v→aU xs us→r x xs H Q→
    wpAny (model X.prog X.w) X.A (call (.builtin id) (v::us)) (EP X pins σ Q) X.xe s
section
variable{X:Cx}{a b:Expr}{ta tb:TE}{pos:Pos}
theorem A8.or{r r':R2}(h:A8 X r)(h':A8 X r'):A8 X (fun x y H Q=>r x y H Q∨r' x y H Q):=by
  intro value slice pins s σ H x y v u Q I rx ry q hs
  rcases q with q | q
  · exact h value slice pins s σ H x y v u Q I rx ry q hs
  · exact h' value slice pins s σ H x y v u Q I rx ry q hs
theorem Dh{r:R2}(hr:A8 X r)(ha:PE X a ta)(hb:PE X b tb)(hs:nX b):PE X (.Subscript a b pos) (GK r ta tb):=by
  intro pins s σ H Q I h
  exact Subscript_ (DH ha hb I h fun v u s2 x y H2 I2 rx ry q=>hr a b pins s2 σ H2 x y v u Q I2 rx ry q (hs _ _))
def EN(K:⇑0):R2:=fun x y H Q=>∃p xs i v,x=.ref p∧y=.int i∧dS K H p xs∧atI xs i=some v∧Q v H
def Gp(K:⇑0):R2:=fun x y H Q=>∃p xs i v,x=.ref p∧y=.int i∧cm K H p xs∧atI xs i=some v∧Q v H
theorem wL:A8 X (EN X.K):=by
  intro value slice pins s σ H x y v u Q I rx ry h hs
  obtain⟨p,xs,i,z,rfl,rfl,hq,he,q⟩:=h
  cases rx
  obtain⟨t,rfl⟩:=ry
  obtain⟨its,r,pl,hz⟩:=I.list hq
  obtain⟨j,h1,h2,h3,h4,h5⟩:=wn he
  obtain⟨w,ew,rw'⟩:=r.get h2
  have hl:=r.length
  have hn:=r9
  have fin:EP X pins σ Q w s:=⟨z,H,I,rw',q⟩
  by_cases h0:0≤i
  · have hj:i.toNat=j:=by
      rw [seqIndex_of h0 h5] at h1
      exact Option.some.inj h1
    exact item_listR pl.isList h0 ↥0 (by rw [hj];simpa using ew) fin hs
  · have hj:(i+(its.toArray.size:Int)).toNat=j:=by
      rw [seqIndex_neg ↥0 h4] at h1
      rw [List.size_toArray,←hl]
      exact Option.some.inj h1
    exact subscriptTail_builtinR (x:=w) pl.isList.typeIs slot_list_getitem.lookup
      (wpAny_getItem_list_neg (Q:=fun r s'=>r=w∧EP X pins σ Q r s') pl.isList ↥0 (by rw [List.size_toArray]<;>lia) ↥0 (by rw [hj];simpa using ew) ⟨rfl,fin⟩) hs
theorem DU:A8 X (Gp X.K):=by
  intro value slice pins s σ H x y v u Q I rx ry h hs
  obtain⟨p,xs,i,z,rfl,rfl,hq,he,q⟩:=h
  cases rx
  obtain⟨t,rfl⟩:=ry
  obtain⟨its,r,pl,hz⟩:=I.tuple hq
  obtain⟨j,h1,h2,h3,h4,h5⟩:=wn he
  obtain⟨w,ew,rw'⟩:=r.get h2
  have hl:=r.length
  have hn:=r9
  have fin:EP X pins σ Q w s:=⟨z,H,I,rw',q⟩
  exact subscriptTail_builtinR (x:=w) pl.typeIs slot_tuple_getitem.lookup
    (getItem_tuple (j:=j) (Q:=fun r s'=>r=w∧EP X pins σ Q r s') pl ↥0 ↥0 (by rw [List.size_toArray,←hl];exact h1) (by simpa using ew) ⟨rfl,fin⟩) hs
theorem vp(its:List Value)(n j:Nat)(u:Value):Obj.mapSeq (·.setIfInBounds j u) {cls:=.type "list",data:=.seq its.toArray n}={cls:=.type "list",data:=.seq (its.set j u).toArray n}:=by
  simp [Obj.mapSeq]
theorem aF.lst{pins:List (Addr × Obj)}{σ:St}{H:Hp}{s:Shared}{p:Addr}{xs:List V}(I:aF X pins σ H s)(h:H p=some (.lst xs)):
    ∃(its:List Value) (n:Nat),aU xs its∧s.heap.get? p=some {cls:=.type "list",data:=.seq its.toArray n}∧xs.length≤sizeLine:=by
  obtain⟨z,its,n,r,e⟩:=I.hok p _ h
  exact⟨its,n,r,e,z⟩
theorem aF.lstUpd{pins:List (Addr × Obj)}{σ:St}{H:Hp}{s:Shared}{p:Addr}{xs ys:List V}{its its':List Value}{n n':Nat}{f:Obj→Obj}(I:aF X pins σ H s)(h:H p=some (.lst xs))
    (ho:s.heap.get? p=some {cls:=.type "list",data:=.seq its.toArray n})(hf:f {cls:=.type "list",data:=.seq its.toArray n}={cls:=.type "list",data:=.seq its'.toArray n'})(r:aU ys its')(hz:ys.length≤sizeLine)(t:Nat):
    aF X pins σ (a_ H p (.lst ys)) {s with heap:=s.heap.update p f,toks:=t}:=by
  have e:(s.heap.update p f).get? p=some {cls:=.type "list",data:=.seq its'.toArray n'}:=by
    rw [Heap.get?_update_self f ho (by rw [hf]<;>rfl),hf]
  refine I.write (x:=p) (e:=p) (by rw [h];trivial) (.inl rfl) (fun b u hb q=>(Heap.get?_update_other _ _ (Ne.symm hb)).trans q) ⟨_,e⟩ ?_
  exact⟨hz,its',n',r,e⟩
def Gq:V→V→V→Hp→(Hp→Prop)→Prop:=fun o i v H Q=>∃p xs k j,o=.ref p∧i=.int k∧H p=some (.lst xs)∧r6 xs.length k=some j∧Q (a_ H p (.lst (xs.set j v)))
theorem uw:Fv X Gq:=by
  intro pins s σ H o i v ov iv u Q I ro ri rv h
  obtain⟨p,xs,k,j,rfl,rfl,hp,hj,q⟩:=h
  cases ro
  obtain⟨t,rfl⟩:=ri
  obtain⟨its,n,r,ho,hz⟩:=I.lst hp
  obtain⟨h1,h2,h3,h4⟩:=wK hj
  have hl:=r.length
  have hn:=r9
  have I':aF X pins σ (a_ H p (.lst (xs.set j v))) {s with heap:=s.heap.update p (Obj.mapSeq (·.setIfInBounds j u))}:=
    I.lstUpd hp ho (vp its n j u) (r.set rv j) (by rw [List.length_set];exact hz) s.toks
  by_cases h0:0≤k
  · have hk:k.toNat=j:=by
      rw [seqIndex_of h0 h4] at h1
      exact Option.some.inj h1
    exact PySem.W.ki_setAt ho h0 ↥0 (by rw [List.size_toArray,←hl];exact h4) (by rw [hk];exact⟨_,I',q⟩)
  · have hk:(k+(its.toArray.size:Int)).toNat=j:=by
      rw [seqIndex_neg ↥0 h3] at h1
      rw [List.size_toArray,←hl]
      exact Option.some.inj h1
    exact PySem.W.ki_setBack ho ↥0 (by rw [List.size_toArray,←hl];exact h3) ↥0 (by rw [hk];exact⟨_,I',q⟩)
theorem sM(lo hi:Option Int)(n:Nat):(sliceBounds lo hi none n).1=((HT.sIx n 0 lo:Nat):Int)∧(sliceBounds lo hi none n).2.1=((HT.sIx n n hi:Nat):Int)∧(sliceBounds lo hi none n).2.2=1:=by
  refine⟨?_,?_,rfl⟩
  · cases lo with
    | none=>simp [sliceBounds,HT.sIx]
    | some i=>
      simp only [sliceBounds,HT.sIx,Option.getD_none,show(1:Int) > 0 by decide,if_true]
      by_cases h:i < 0
      · simp only [h,if_true]<;>lia
      · simp only [h,if_false]<;>lia
  · cases hi with
    | none=>simp [sliceBounds,HT.sIx]
    | some i=>
      simp only [sliceBounds,HT.sIx,Option.getD_none,show(1:Int) > 0 by decide,if_true]
      by_cases h:i < 0
      · simp only [h,if_true]<;>lia
      · simp only [h,if_false]<;>lia
theorem qf(its:List Value)(lo hi:Option Int):slicePick its.toArray lo hi none=((its.drop (HT.sIx its.length 0 lo)).take (HT.sIx its.length its.length hi - HT.sIx its.length 0 lo)).toArray:=by
  obtain⟨h1,h2,h3⟩:=sM lo hi its.toArray.size
  unfold slicePick
  rw [h1,h2,h3]
  simp only [sliceRange_one,pick_run,List.size_toArray]<;>rfl
def Gr(K:⇑0):V→Option Int→Option Int→Hp→VK→Prop:=fun x lo hi H Q=>∃a xs,x=.ref a∧dS K H a xs∧∀p,H p=none→Q (.ref p) (a_ H p (.lst (p8 xs lo hi)))
theorem Co:Bf X (Gr X.K):=by
  intro pins s σ H x v vl vu lo hi sl Q I rx hs pl pu h
  obtain⟨a,xs,rfl,hx,q⟩:=h
  cases rx
  obtain⟨its,r,ht,hz⟩:=I.list hx
  have hlen:=r.length
  refine⟨"list",_,slot_list_getitem.lookup,ht.isList.typeIs,?_⟩
  refine wpAny_getItem_list_slice ht.isList hs pl pu .none ↥1 ?_ (by rw [List.size_toArray]<;>lia)
  rw [qf,←hlen]
  refine⟨.ref ↑s,_,I.laid (t':=s.toks) (o:=.lst (p8 xs lo hi)) (fun b ob q=>Heap.get?_push_of_some _ q) ↥8 ?_,rfl,q _ (I.hok.fresh ↥8)⟩
  exact⟨Nat.le_trans (m4 xs lo hi) hz,_,0,(r.drop (HT.sIx xs.length 0 lo)).take (HT.sIx xs.length xs.length hi - HT.sIx xs.length 0 lo),Heap.get?_push_size _ rfl⟩
theorem lC:dW X (.builtin "len") (fun xs H Q=>∃p ys,xs=[.ref p]∧(dS X.K H p ys∨cm X.K H p ys)∧Q (.int ys.length) H):=by
  intro pins s σ H xs us Q I r h
  obtain⟨p,ys,rfl,hq,q⟩:=h
  obtain⟨u,rfl,rx⟩:=uK r
  cases rx
  have hn:=r9
  rcases hq with hq | hq
  · obtain⟨its,r',pl,hz⟩:=I.list hq
    have hlen:=r'.length
    exact Calls.call_len_list pl.isList (by simp only [List.size_toArray]<;>lia) ⟨.int ys.length,H,I.tok _,⟨s.toks+1,by rw [List.size_toArray,hlen]⟩,q⟩
  · obtain⟨its,r',pl,hz⟩:=I.tuple hq
    have hlen:=r'.length
    exact len_tuple pl (by simp only [List.size_toArray]<;>lia) ⟨.int ys.length,H,I.tok _,⟨s.toks+1,by rw [List.size_toArray,hlen]⟩,q⟩
theorem p7:dW X (.type "tuple") (fun xs H Q=>∃p ys,xs=[.ref p]∧((dS X.K H p ys∧∀l,H l=none→Q (.ref l) (a_ H l (.tup ys)))∨(cm X.K H p ys∧Q (.ref p) H))):=by
  intro pins s σ H xs us Q I r h
  obtain⟨p,ys,rfl,h⟩:=h
  obtain⟨u,rfl,rx⟩:=uK r
  cases rx
  rcases h with ⟨hq,q⟩ | ⟨hq,q⟩
  · obtain⟨its,r',pl,hz⟩:=I.list hq
    have hlen:=r'.length
    refine call_tuple_list pl.isList (fun h' kp=>?_) (by simp only [List.size_toArray]<;>lia)
    have I1:aF X pins σ H {s with heap:=h'}:=I.kept (t':=s.toks) kp
    have I2:aF X pins σ (a_ H h'.objs.size (.tup ys)) {s with heap:=h'.push {cls:=.type "tuple",data:=.seq its.toArray}}:=
      I1.laid (t':=s.toks) (fun b o e=>Heap.get?_push_of_some _ e) ↥8 (show dX X.prog X.w _ _ _ (.tup ys) from⟨hz,its,r',kN.new _ _⟩)
    exact⟨.ref h'.objs.size,_,I2,rfl,q _ (I1.hok.fresh ↥8)⟩
  · obtain⟨its,r',pl,hz⟩:=I.tuple hq
    exact call_tuple_same pl ⟨.ref p,H,I,rfl,q⟩
def HY(K:⇑0)(T:String)(x:V)(H:Hp):Prop:=match x with
  | .str _=>T="str"
  | .int _=>T="int"
  | .ref p=>(T="list"∧∃xs,dS K H p xs)∨(T="tuple"∧∃o,K.lookup p=some o∧o.cls=.type "tuple"∧o.dict=none)∨
      (T="dict"∧((∃kvs,H p=some (.dK kvs))∨∃kvs,H p=some (.dT kvs)))∨(T="set"∧∃S n,H p=some (.set S n))
  | _=>False
theorem Fi{pins:List (Addr × Obj)}{σ:St}{H:Hp}{s:Shared}{T:String}{x:V}{v:Value}(I:aF X pins σ H s)(r:bx x v)(ty:HY X.K T x H):
    s.TypeIs v T∧∀a,v=.ref a→∃ob,s.heap.get? a=some ob∧ob.dict=none:=by
  cases x with
  | str z=>
    obtain⟨t,rfl⟩:=r
    cases (show T="str" from ty)
    exact⟨typeIs_str s z t,fun _ e=>nomatch e⟩
  | int i=>
    obtain⟨t,rfl⟩:=r
    cases (show T="int" from ty)
    exact⟨typeIs_int s i t,fun _ e=>nomatch e⟩
  | ref p=>
    cases r
    rcases ty with ⟨rfl,xs,hq⟩ | ⟨rfl,o,hk,hc,hd⟩ | ⟨rfl,hk⟩ | ⟨rfl,S,n,hk⟩
    · obtain⟨its,_,pl,_⟩:=I.list hq
      refine⟨pl.isList.typeIs,fun a e=>?_⟩
      cases e
      obtain⟨o,n,e,c,hd,_⟩:=pl
      exact⟨o,e,hd⟩
    · refine⟨⟨o,I.kIn p o hk,hc⟩,fun a e=>?_⟩
      cases e
      exact⟨o,I.kIn _ o hk,hd⟩
    · have z:∃o,s.heap.get? p=some o∧o.ExactDict:=by
        rcases hk with ⟨kvs,hk⟩ | ⟨kvs,hk⟩
        · obtain⟨_,_,_,_,o,_,_,e,ex,_⟩:=I.hok p _ hk
          exact⟨o,e,ex⟩
        · obtain⟨_,_,_,_,o,_,_,e,ex,_⟩:=I.hok p _ hk
          exact⟨o,e,ex⟩
      obtain⟨o,e,ex⟩:=z
      refine⟨⟨o,e,ex.1⟩,fun a e2=>?_⟩
      cases e2
      exact⟨o,e,ex.2.1⟩
    · obtain⟨o,_,_,_,e,ex,_⟩:=I.hok p _ hk
      refine⟨⟨o,e,ex.1⟩,fun a e2=>?_⟩
      cases e2
      exact⟨o,e,ex.2.1⟩
  | _=>exact False.elim ty
def HW(K:⇑0)(T:String)(r:V→List V→Hp→VK→Prop)(to:TE)(t:TA):TE:=fun σ H Q=>to σ H fun x H1=>HY K T x H1∧t σ H1 fun xs H2=>r x xs H2 Q
variable{o e:Expr}{es:List Expr}{to:TE}{t:TA}{name:Str}{apos cpos:Pos}{T id:String}{r:V→List V→Hp→VK→Prop}
theorem zR(pa:PlainAttrs T)(slot:Slot T name id)(hty:typeOf (.builtin id)=pure (.type "method_descriptor"))(hm:HN X id r)(ho:PE X o to)(ha:PA X (e::es) t)
    (hbase:attributeBase o name X.env (eval o X.env)=eval o X.env:=by rfl)
    (hfew:((backTo cpos (starEach (e::es) X.env)).all (fun x=> !x.1)&&(backToKw cpos (keywordEach [] X.env)).all (fun x=>x.1.isSome)
      &&decide ((e::es).length+([]:List Keyword).length+(if ([]:List Keyword).isEmpty then 0 else 1) < 30))=true:=by rfl)
    (hline:(apos.endLine==cpos.line)=true:=by rfl)(hs:starEach (e::es) X.env=(false,eval e X.env)::starEach es X.env:=by rfl)(hplain:(backTo cpos (starEach es X.env)).any (·.1)=false:=by rfl):
    PE X (.Call (.Attribute o name apos) (e::es) [] cpos) (HW X.K T r to t):=by
  intro pins s σ H Q I h
  refine wpAny_Call_method_late hbase hfew hline rfl (bS (ho pins s σ H _ I h) fun v s1 ⟨x,H1,I1,r1,ty,q1⟩=>?_)
  obtain⟨h1,h2⟩:=Fi I1 r1 ty
  refine⟨T,id,pa,slot,hty,h1,h2,?_⟩
  have hA:=ha cpos pins s1 σ H1 _ I1 q1
  rw [hs] at hA ⊢
  refine Calls.callWith_builtin (by show(false || (backTo cpos (starEach es X.env)).any (·.1))=false;rw [hplain]<;>rfl) (Calls.evalArgs_plain ?_)
  exact bS hA fun us s2 ⟨vs,H2,I2,r2,q2⟩=>hm pins s2 σ H2 x vs v us Q I2 r1 r2 q2
end
def Hc(X:Cx)(id:String)(r:V→List V→Hp→VK→Prop):Prop:=
  ∀(pins:List (Addr × Obj)) (s:Shared) (σ:St) (H:Hp) (x:V) (xs:List V) (v:Value) (us:List Value) (Q:VK),aF X pins σ H s→bx x v→aU xs us→r x xs H Q→
    wpAny (model X.prog X.w) X.A (call (.builtin id) (v::us)) (EP X pins σ Q) X.xe s
theorem aU.one:∀{x:V} {us:List Value},aU [x] us→∃u,us=[u]∧bx x u
  | _,_,.cons r .nil=>⟨_,rfl,r⟩
theorem aU.eraseIdx:∀{xs:List V} {us:List Value} (i:Nat),aU xs us→aU (xs.eraseIdx i) (us.eraseIdx i)
  | _,_,_,.nil=>.nil
  | _,_,0,.cons _ t=>t
  | _,_,i+1,.cons r t=>.cons r (aU.eraseIdx i t)
theorem aU.rep{xs:List V}{us:List Value}(h:aU xs us):∀k:Nat,aU (List.replicate k xs).flatten (List.replicate k us).flatten
  | 0=>.nil
  | k+1=>by
    rw [List.replicate_succ,List.replicate_succ,List.flatten_cons,List.flatten_cons]
    exact aU.append h (aU.rep h k)
theorem qQ{α:Type}:∀(l:List α) (i:Nat),(l.eraseIdx i).length≤l.length
  | [],_=>Nat.le_refl _
  | _::_,0=>Nat.le_succ _
  | _::r,i+1=>Nat.succ_le_succ (qQ r i)
theorem qH(its:List Value):∀(k:Nat) (acc:List Value),
    List.foldl (fun x1 x2=>x1++x2) acc.toArray (List.replicate k its.toArray)=(acc++(List.replicate k its).flatten).toArray
  | 0,acc=>by simp
  | k+1,acc=>by
    have e:acc.toArray++its.toArray=(acc++its).toArray:=by simp
    have e2:(acc++its)++(List.replicate k its).flatten=acc++(List.replicate (k+1) its).flatten:=by
      rw [List.replicate_succ,List.flatten_cons,List.append_assoc]
    rw [←e2,←qH its k (acc++its),←e,List.replicate_succ,List.foldl_cons]
section
variable{X:Cx}{pins:List (Addr × Obj)}{σ:St}{H:Hp}{s:Shared}{l b:Addr}{xs ys zs:List V}
theorem aF.lset{its its':List Value}{n:Nat}{f:Array Value→Array Value}{t':Nat}(I:aF X pins σ H s)(hH:H l=some (.lst xs))
    (e:s.heap.get? l=some {cls:=.type "list",data:=.seq its.toArray n})(hf:f its.toArray=its'.toArray)(hv:aU ys its')(hz:ys.length≤sizeLine):
    aF X pins σ (a_ H l (.lst ys)) {s with heap:=s.heap.update l (Obj.mapSeq f),toks:=t'}:=by
  have q:=PySem.IsL.update e f
  rw [hf] at q
  refine I.write (x:=l) (e:=l) (by rw [hH];exact trivial) (.inl rfl) (fun b' u hb hu=>(Heap.get?_update_other s.heap (Obj.mapSeq f) (Ne.symm hb)).trans hu) ⟨_,q⟩ ?_
  exact⟨hz,its',_,hv,q⟩
theorem aF.lnew{its:List Value}{t':Nat}(I:aF X pins σ H s)(hv:aU ys its)(hz:ys.length≤sizeLine):
    aF X pins σ (a_ H ↑s (.lst ys)) {s with heap:=s.heap.push {cls:=.type "list",data:=.seq its.toArray},toks:=t'}:=
  I.laid (fun _ _ q=>Heap.get?_push_of_some _ q) ↥8 ⟨hz,its,0,hv,Heap.get?_push_size _ rfl⟩
theorem aF.fresh(I:aF X pins σ H s):H ↑s=none:=I.hok.fresh ↥8
theorem aF.lstM(I:aF X pins σ H s)(hH:H l=some (.lst xs)):xs.length≤sizeLine∧∃(its:List Value) (n:Nat),aU xs its∧xs.length=its.length∧s.heap.get? l=some {cls:=.type "list",data:=.seq its.toArray n}:=by
  obtain⟨z,its,n,r,e⟩:=I.hok l _ hH
  exact⟨z,its,n,r,r.length,e⟩
theorem t9{n:Nat}(h:n≤sizeLine):Builtin.List.listTooLong n=false:=by
  unfold Builtin.List.listTooLong
  exact decide_eq_false ↥0
end
section
variable{X:Cx}
def wZ:V→List V→Hp→VK→Prop:=fun x vs H Q=>∃l xs y,x=.ref l∧vs=[y]∧H l=some (.lst xs)∧xs.length < sizeLine∧Q .non (a_ H l (.lst (xs++[y])))
theorem iS:Hc X "list.append" wZ:=by
  intro pins s σ H x vs v us Q I rx rv h
  obtain⟨l,xs,y,rfl,rfl,hH,hz,q⟩:=h
  cases rx
  obtain⟨u,rfl,ru⟩:=rv.one
  obtain⟨z,its,n,r,hl,e⟩:=I.lstM hH
  refine call_meets F.slot_list_append ⟨_,e,rfl⟩ F.entry_list_append (F.args_list_append_2 _ _) (PySem.list_append l its.toArray n u (by rw [List.size_toArray];lia)) ⟨e,?_⟩
  refine⟨.non,_,I.lset (its':=its++[u]) hH e ↥1 (r.append (.cons ru .nil)) ?_,rfl,q⟩
  rw [List.length_append,List.length_singleton]
  lia
def Cj:V→List V→Hp→VK→Prop:=fun x vs H Q=>∃l b xs zs,x=.ref l∧vs=[.ref b]∧H l=some (.lst xs)∧H b=some (.lst zs)∧xs.length+zs.length≤sizeLine∧Q .non (a_ H l (.lst (xs++zs)))
theorem xV:Hc X "list.extend" Cj:=by
  intro pins s σ H x vs v us Q I rx rv h
  obtain⟨l,b,xs,zs,rfl,rfl,hH,hB,hz,q⟩:=h
  cases rx
  obtain⟨u,rfl,ru⟩:=rv.one
  cases ru
  obtain⟨z,its,n,r,hl,e⟩:=I.lstM hH
  obtain⟨z2,its2,n2,r2,hl2,e2⟩:=I.lstM hB
  have hsz:its.toArray.size+its2.toArray.size≤sizeLine:=by rw [List.size_toArray,List.size_toArray];lia
  have hlong:¬(!its.toArray.isEmpty&&Builtin.List.listTooLong (its.toArray.size+its2.toArray.size))=true:=by
    rw [t9 hsz,Bool.and_false]
    exact Bool.false_ne_true
  refine call_meets F.slot_list_extend ⟨_,e,rfl⟩ F.entry_list_extend (F.args_list_extend_2 _ _)
    (AutoSeq1.list_extend_list_list_0 l its.toArray n b its2.toArray n2 hlong (by rw [List.size_toArray];lia) ↥0) ⟨e,e2,?_⟩
  refine⟨.non,_,I.lset (its':=its++its2) hH e ↥1 (r.append r2) ?_,rfl,q⟩
  rw [List.length_append]
  lia
def Av:V→List V→Hp→VK→Prop:=fun x vs H Q=>∃l xs i k y,x=.ref l∧vs=[.int i]∧H l=some (.lst xs)∧ -(2 ^ 63)≤i∧i < 2 ^ 63∧seqIndex? i xs.length=some k∧xs[k]?=some y∧Q y (a_ H l (.lst (xs.eraseIdx k)))
theorem zC:Hc X "list.pop" Av:=by
  intro pins s σ H x vs v us Q I rx rv h
  obtain⟨l,xs,i,k,y,rfl,rfl,hH,h1,h2,hk,hy,q⟩:=h
  cases rx
  obtain⟨u,rfl,ru⟩:=rv.one
  obtain⟨t,rfl⟩:=ru
  obtain⟨z,its,n,r,hl,e⟩:=I.lstM hH
  obtain⟨w,hw,rw'⟩:=r.get hy
  refine call_meets F.slot_list_pop ⟨_,e,rfl⟩ F.entry_list_pop (F.args_list_pop_2 _ _)
    (MeetsSeq.list_pop_at l its.toArray n i t k w (fitsIndex_both h1 h2) (by rw [List.size_toArray,←hl];exact hk) (by rw [←Array.getElem?_toList];exact hw) (by rw [List.size_toArray];lia)) ⟨e,?_⟩
  refine⟨y,_,I.lset (its':=its.eraseIdx k) hH e ?_ (r.eraseIdx k) ?_,rw',q⟩
  · show its.toArray.eraseIdxIfInBounds k=(its.eraseIdx k).toArray
    rw [List.eraseIdxIfInBounds_toArray]
  · have:=qQ xs k
    lia
def EL:R2:=fun x y H Q=>∃l b xs zs,x=.ref l∧y=.ref b∧H l=some (.lst xs)∧H b=some (.lst zs)∧xs.length+zs.length≤sizeLine∧∀p,H p=none→Q (.ref p) (a_ H p (.lst (xs++zs)))
theorem Ee:jv X (binaryOp .Add) EL:=by
  intro pins s σ H x y v u Q I rx ry h
  obtain⟨l,b,xs,zs,rfl,rfl,hH,hB,hz,q⟩:=h
  cases rx
  cases ry
  obtain⟨z,its,n,r,hl,e⟩:=I.lstM hH
  obtain⟨z2,its2,n2,r2,hl2,e2⟩:=I.lstM hB
  refine PySem.P.add_list e e2 ?_ (by rw [List.size_toArray,List.size_toArray];lia)
  have ea:its.toArray++its2.toArray=(its++its2).toArray:=by simp
  rw [ea]
  exact⟨.ref _,_,I.lnew (t':=s.toks) (r.append r2) (by rw [List.length_append];lia),rfl,q _ I.fresh⟩
def EO:R2:=fun x y H Q=>∃l k xs,x=.ref l∧y=.int k∧H l=some (.lst xs)∧ -(2 ^ 63)≤k∧k < 2 ^ 63∧xs.length*k.toNat≤sizeLine∧
  ∀p,H p=none→Q (.ref p) (a_ H p (.lst (List.replicate k.toNat xs).flatten))
theorem By{α:Type}(xs:List α)(k:Nat):(List.replicate k xs).flatten.length=k*xs.length:=by
  induction k with
  | zero=>simp
  | succ k ih=>rw [List.replicate_succ,List.flatten_cons,List.length_append,ih,Nat.succ_mul,Nat.add_comm]
theorem Ek:jv X (binaryOp .Mult) EO:=by
  intro pins s σ H x y v u Q I rx ry h
  obtain⟨l,k,xs,rfl,rfl,hH,h1,h2,hz,q⟩:=h
  cases rx
  obtain⟨t,rfl⟩:=ry
  obtain⟨z,its,n,r,hl,e⟩:=I.lstM hH
  have hlen:its.toArray.size*k.toNat≤sizeLine:=by rw [List.size_toArray,←hl];exact hz
  have hcap:¬its.toArray.size*k.toNat > (2 ^ 63 - 1) / 8:=by
    have:(sizeLine:Nat)≤(2 ^ 63 - 1) / 8:=by decide
    lia
  have hfit:¬(!Builtin.List.listFitsIndex k)=true:=by
    rw [fitsIndex_both h1 h2]
    exact Bool.false_ne_true
  have hlong:¬Builtin.List.listTooLong (its.toArray.size*k.toNat)=true:=by
    rw [t9 hlen]
    exact Bool.false_ne_true
  have hnew:List.foldl (fun x1 x2=>x1++x2) #[] (List.replicate (if its.toArray.isEmpty=true then 0 else k.toNat) its.toArray)=(List.replicate k.toNat its).flatten.toArray:=by
    have f0:∀m:Nat,List.foldl (fun x1 x2=>x1++x2) #[] (List.replicate m its.toArray)=(List.replicate m its).flatten.toArray:=fun m=>by
      have:=qH its m []
      rw [List.nil_append] at this
      exact this
    rw [f0]
    cases its with
    | nil=>simp
    | cons a r'=>rw [if_neg ↥1]
  refine wpAny_binaryOp_repeat_ref (T:="list") (U:="int") ⋯ ⟨_,e,rfl⟩ (fun s'=>typeIs_int s' k t) noFill_list_mul F.fills_int_mul F.slot_int_rmul repeat_list F.slot_int_index.lookup
    (call_meets F.slot_int_rmul (typeIs_int s k t) F.entry_int_rmul (F.args_int_rmul_2 _ _) (int___rmul___int_list k t l its.toArray n)
      ⟨e,rfl,⟨_,e,rfl⟩,call_meets F.slot_list_mul ⟨_,e,rfl⟩ F.entry_list_mul (F.args_list_mul_2 _ _) (AutoListH.list___mul___list_int_3 l its.toArray n k t hfit hcap hlong) ⟨e,?_⟩⟩)
  rw [hnew]
  exact⟨.ref _,_,I.lnew (t':=s.toks) (r.rep k.toNat) (by rw [By,Nat.mul_comm];exact hz),rfl,q _ I.fresh⟩
end
section
variable{prog:Program}{w:World}{A:Around}{E:Value→Shared→Prop}{s:Shared}
end
section
variable{X:Cx}
end
end L2
namespace Att
open PySem PySem.W PySem.Calls PyProof.Rows
theorem nQ{P:Params}{h:Heap}:∀(ns:List Int) (vs:List Value),WellAll P h vs (ns.map WData.int)→IntsAre vs ns:=by
  intro ns
  induction ns with
  | nil=>
    intro vs w
    rw [List.map_nil] at w
    cases w
    exact .nil
  | cons n ns ih=>
    intro vs w
    rw [List.map_cons] at w
    cases w with
    | cons a b=>
      cases a
      exact .cons _ _ (ih _ b)
theorem yh{l:OpenLaw}{n:Nat}(hn:l.most=some n){P:Params}{h:Heap}{args:List WData}{vals:List Value}
    (hpre:l.row.toRowW.claim.pre args=true)(hwl:WellAll P h vals args):
    ∃a vs ns,vals=[Value.ref a]∧args=[WData.list (ns.map WData.int)]∧h.get? a=some {cls:=.type "list",data:=.seq vs.toArray}∧IntsAre vs ns∧ns.length≤n:=by
  have hsh:WShape.hasAll [] args [.list .int]=true:=(pre_splitW hpre).1
  have hc:l.pre.holds [] {args:=args}=true:=(pre_splitW hpre).2
  obtain⟨d,r,rfl,h1,h2⟩:=hasAllW_cons hsh
  obtain rfl:=hasAllW_nil h2
  obtain⟨xs,rfl,h3⟩:=hasW_list h1
  obtain⟨ns,rfl⟩:=items_int h3
  have hlen:ns.length≤n:=by
    unfold OpenLaw.pre at hc
    have h4:(WTm.not (.lt (.lit (.int (n:Int))) (.len (.arg 0)))).holds [] {args:=[.list (ns.map .int)]}=true:=by
      have h4:=(holds_andW hc).1
      rw [hn] at h4
      exact h4
    have h5:=condW_of h4 (w_not (w_lt w_lit (w_len_list (w_arg rfl))))
    rw [List.length_map] at h5
    refine Nat.le_of_not_lt fun q=>?_
    have q':(n:Int) < ((ns.length:Nat):Int):=by lia
    first
      | (rw [decide_eq_true q'] at h5;exact absurd h5 ⋯)
      | (simp at h5;lia)
  cases hwl with
  | cons w1 w2=>
    cases w2
    cases w1 with
    | list ho hall=>exact⟨_,_,ns,rfl,rfl,ho,nQ ns _ hall,hlen⟩
theorem ya(l:OpenLaw)(args:List WData):l.row.toRowW.claim.post args (.bool true) args=true:=
  postW_of (r:=l.row.toRowW) (X:=(true==true))
    (show WShape.has [] (.bool true) .bool=true by first | rfl | decide | simp [WShape.has,WShape.arms,WShape.armsAll])
    (show(WTm.eq .res (.lit (.bool true))).value [] {args:=args,res:=some (.bool true),after:=args}=some (.bool (true==true)) from w_eq_bool (w_res rfl) w_lit) rfl
theorem attach_call{l:OpenLaw}{n:Nat}{q:Program}{loose:List Str}{XP:(Str→Option Value)→Heap→Prop}{YP:World→Heap→Prop}{d:DefRec}
    (hn:l.most=some n)(hdf:d.params.defaults=[])
    (call:∀(w:World) (s₀ s₁:Shared) (mg mb:Str→Option Value) (fa:Addr) (o:Obj) (pm cd doc:Value) (a:Addr) (vs:List Value) (ns:List Int),
      Ground q loose [] XP w s₀ mg mb s₁.heap→YP w s₁.heap→
      s₁.heap.get? fa=some o→o.data=.func (docDef d.name d.params d.body d.scope pm cd doc)→s₁.heap.CodeRec cd d.name→mg d.name=some (.ref fa)→
      s₁.heap.get? a=some {cls:=.type "list",data:=.seq vs.toArray}→IntsAre vs ns→ns.length≤n→s₁.gens=#[]→
      codeAny (model l.prog w) callerA (.call (.ref fa) ⟨[.ref a],[]⟩) (fun r s'=>r=.ok (.ret (.bool true))∧OldK s₁.heap s'.heap∧s'.os=s₁.os∧AllBare s'.gens) s₁):
    WalkO q loose XP YP l.row.toRowW d [] (fun f vs=>PySem.call f vs):=by
  intro w s₀ s₁ mg mb G Y fa o pm cd doc dV kV ho hd hcd hD hmg hg args vals as hpre hlay hrd hwl hlo
  obtain rfl:dV=.none:=Dflts.none hD hdf
  obtain rfl:kV=.none:=Dflts.noKw hD
  obtain⟨a,vs,ns,rfl,rfl,hobj,hints,hlen⟩:=yh hn hpre hwl
  refine enter_call (codeAny_mono (call w s₀ s₁ mg mb fa o pm cd doc a vs ns G Y ho (fd_plain hd) hcd hmg hobj hints hlen hg) fun r s' hq=>?_)
  obtain⟨rfl,h2,h3,h4⟩:=hq
  exact⟨.inl ⟨.bool true,.bool true,[],rfl,fun _=>rfl,.bool true,ya l _,fun _=>⟨List.Pairwise.nil,fun _ hm=>(nomatch hm)⟩⟩,h2,h3,h4⟩
section
variable{prog:Program}{w:World}{A:Around}{E:Value→Shared→Prop}{s:Shared}{K:Frag}
end
end Att
namespace L2
open PySem PySem.Spec PyProof.Rows
theorem mU:∀{vs:List Value} {ns:List Int},IntsAre vs ns→aU (ns.map V.int) vs
  | _,_,.nil=>.nil
  | _,_,.cons n t h=>.cons ⟨t,rfl⟩ (mU h)
def DD(H:Hp):Prop:=∀b,H b=none∨∃o xs,H b=some (.frz o (.lst xs))
theorem zu{P:Program}{w:World}{K:⇑0}{mg mb:Str→Option Value}{CX:rB}{k:Nat}{fa a:Addr}{fd:FuncData}{x:Str}{sp:Sp}{s₁:Shared}{vs:List Value}{ns:List Int}
    (KX:K.In s₁.heap)(hns:s₁.heap.Ns mainGlobals mg)(hb:s₁.heap.Ns builtinsNs mb)(hbb:∀x:Str,x≠"__name__"→mb x=bootBuiltins x)(hlim:s₁.heap.NoLimit)(hg:s₁.gens=#[])
    (ha:s₁.heap.get? a=some {cls:=.type "list",data:=.seq vs.toArray})(hi:IntsAre vs ns)(hl:ns.length≤sizeLine)(hr:c9 k callerA)
    (F:∀base:Heap,K.In base→base.Ns mainGlobals mg→au P w K mg base CX k fa fd [x] sp)(hbind:∀(s:Shared) (u:Value),BindsTo s fd ⟨[u],[]⟩ [(x,u)])
    (hsp:∀H:Hp,DD H→dS K H a (ns.map V.int)→sp [.ref a] H (fun v _=>v=.bl true) fun _ _ _=>False)
    (hCX:∀H e s',CX [] H s₁ (fun _ _ _=>False) e s'→False):
    codeAny (model P w) callerA (.call (.ref fa) ⟨[.ref a],[]⟩) (fun r s'=>r=.ok (.ret (.bool true))∧OldK s₁.heap s'.heap∧s'.os=s₁.os∧AllBare s'.gens) s₁:=by
  have rv:=mU hi
  have lenV:=hi.length
  have core:∀H:Hp,DD H→dS K H a (ns.map V.int)→nP P w H s₁.heap→(∀b,H b≠none→b=a)→(H a≠none→K.lookup a=none)→
      codeAny (model P w) callerA (.call (.ref fa) ⟨[.ref a],[]⟩) (fun r s'=>r=.ok (.ret (.bool true))∧OldK s₁.heap s'.heap∧s'.os=s₁.os∧AllBare s'.gens) s₁:=by
    intro H hO hS hok hA hK
    have base_of:∀{b:Addr} {o:Obj},s₁.heap.get? b=some o→H b=none→(rX s₁.heap H).get? b=some o:=fun e n=>zi e n
    have noA:∀{b:Addr} {o:Obj} {es:Array DictEntry} {ep:Nat},s₁.heap.get? b=some o→o.data=.dict es ep→H b=none:=fun{b o es ep} e d=>by
      cases q:H b with
      | none=>rfl
      | some u=>
        have e':b=a:=hA b (by rw [q];simp)
        subst e'
        rw [ha] at e;cases e
        have d':Data.seq vs.toArray _=Data.dict es ep:=d
        cases d'
    have nsK:∀{b:Addr} {m:Str→Option Value},s₁.heap.Ns b m→(rX s₁.heap H).Ns b m:=fun{b m} ⟨o,es,ep,e,d,r⟩=>⟨o,es,ep,base_of e (noA e d),d,r⟩
    have hKb:K.In (rX s₁.heap H):=fun b o e=>base_of (KX b o e) (by
      cases q:H b with
      | none=>rfl
      | some u=>
        have e':b=a:=hA b (by rw [q];simp)
        subst e'
        rw [hK (by rw [q];simp)] at e;cases e)
    have hM:Mod K mg (rX s₁.heap H):=⟨hKb,nsK hns,⟨mb,nsK hb,hbb⟩,let ⟨mc,h1,h2⟩:=hlim;⟨mc,nsK h1,h2⟩⟩
    have e0:Be P w K mg (rX s₁.heap H) callerA [] s₁ H:=⟨rfl,hM,fun b o e=>BD e,Nat.le_of_eq (xR _ _),trivial,fun b hb=>absurd (show b∈([]:List Addr) from hb) ↥1,hok,.of_eq hg⟩
    refine codeAny_mono ((F _ hKb (nsK hns)).run callerA [] s₁ H ⟨[.ref a],[]⟩ [.ref a] [.ref a] _ _ hr e0 (hbind s₁ (.ref a)) (.cons rfl .nil) (hsp H hO hS)) fun r s' h=>?_
    cases r with
    | error e=>exact(hCX H e s' h).elim
    | ok fl=>
      cases fl with
      | next=>exact False.elim h
      | brk=>exact False.elim h
      | cont=>exact False.elim h
      | ret u=>
        obtain⟨v,H',os,bare,un,hok',r',q⟩:=h
        have q':v=.bl true:=q
        subst q'
        obtain rfl:u=Value.bool true:=r'
        refine⟨rfl,OldK.of_keep fun b o e=>?_,os,bare⟩
        cases q:H b with
        | none=>exact un.keep b o e q (by intro z;exact absurd (show b∈([]:List Addr) from z) ↥1) ↥1
        | some u=>
          rcases hO b with z | ⟨ob,xs,z⟩
          · rw [q] at z;cases z
          · have z2:=un.frzs b ob _ z
            obtain⟨e1,_⟩:=hok b _ z
            obtain⟨e2,_⟩:=hok' b _ z2
            rw [e] at e1;cases e1
            exact e2
  cases hk:K.lookup a with
  | some o=>
    have e:=KX a o hk
    rw [ha] at e
    cases e
    refine core (fun _=>none) (fun _=>.inl rfl) (.inr ⟨_,vs.toArray,_,hk,rfl,rfl,rfl,by rw [List.size_toArray,lenV];exact hl,by simpa using rv⟩) (fun b u z=>by have z':(none:Option HO)=some u:=z;cases z') (fun b z=>absurd rfl z) fun z=>absurd rfl z
  | none=>
    refine core (fun b=>if b=a then some (.frz {cls:=.type "list",data:=.seq vs.toArray} (.lst (ns.map V.int))) else none) (fun b=>?_) (.inl (.inr ⟨{cls:=.type "list",data:=.seq vs.toArray},if_pos rfl⟩)) (fun b u z=>?_) (fun b z=>?_) fun _=>hk
    · by_cases hb:b=a
      · exact .inr ⟨_,_,if_pos hb⟩
      · exact .inl (if_neg hb)
    · by_cases hb:b=a
      · have z':=(if_pos hb).symm.trans z
        cases z'
        subst hb
        exact⟨ha,by rw [List.length_map];exact hl,vs,_,rv,ha⟩
      · have z':=(if_neg hb).symm.trans z
        cases z'
    · by_cases hb:b=a
      · exact hb
      · exact absurd (if_neg hb) z
theorem walk_of{l:PySem.W.OpenLaw}{n k:Nat}{q:Program}{loose:List Str}{XP:(Str→Option Value)→Heap→Prop}{YP:World→Heap→Prop}{d:DefRec}{K:Params→⇑0}{CX:World→rB}{sp:World→Sp}{x:Str}
    (hn:l.most=some n)(hn2:n≤sizeLine)(hdf:d.params.defaults=[])(hr:c9 k callerA)
    (hY:∀(w:World) (h:Heap),YP w h→(K w.params).In h)
    (F:∀(w:World) (mg:Str→Option Value) (fa:Addr) (h:Heap),(K w.params).In h→h.Ns mainGlobals mg→mg d.name=some (.ref fa)→
      ∃fd:FuncData,(∀(s:Shared) (u:Value),BindsTo s fd ⟨[u],[]⟩ [(x,u)])∧
        ∀base:Heap,(K w.params).In base→base.Ns mainGlobals mg→au l.prog w (K w.params) mg base (CX w) k fa fd [x] (sp w))
    (hsp:∀(w:World) (H:Hp) (a:Addr) (ns:List Int),ns.length≤n→DD H→dS (K w.params) H a (ns.map V.int)→sp w [.ref a] H (fun v _=>v=.bl true) fun _ _ _=>False)
    (hCX:∀(w:World) (H:Hp) (s:Shared) (e:Value) (s':Shared),CX w [] H s (fun _ _ _=>False) e s'→False):
    PySem.W.WalkO q loose XP YP l.row.toRowW d [] (fun f vs=>PySem.call f vs):=by
  refine Att.attach_call hn hdf fun w s₀ s₁ mg mb fa o pm cd doc a vs ns G Y ho hd hcd hmg hobj hints hlen hg=>?_
  have KX:=hY w _ Y
  obtain⟨fd,hb,hF⟩:=F w mg fa _ KX G.T.g hmg
  exact zu KX G.T.g G.T.b G.T.builtins G.T.nolimit hg hobj hints (Nat.le_trans hlen hn2) hr hF hb (fun H hO hS=>hsp w H a ns hlen hO hS) fun H e s'=>hCX w H s₁ e s'
abbrev bj:rB:=fun _ _ _ _ _ _=>False
abbrev E0:XK:=fun _ _ _=>False
theorem Ge{X:Cx}:uT bj X E0:=fun _ _ _ _ _ _ _ h=>h.elim
structure CS (K:⇑0) (x qual:Str) (st:Stmt) (f:Addr) (fd:FuncData):Prop where
  ex:∃(oc:Value) (od:Option Addr) (kV doc pm:Value) (an:Option Addr) (cdv ct:Value) (osl:Array (Option Value)),
    fd=PySem.W.fnOf x qual (ec st) (cw st) (am st) .none kV doc pm an cdv ct∧K.lookup f=some ⟨oc,od,.func fd,osl⟩∧PySem.W.codeIn K cdv qual=true
  kp:PySem.W.keepIn K (.ref f)=true
section
variable{P:Program}{w:World}{K:⇑0}{mg:Str→Option Value}{base:Heap}
theorem CS.ok{x qual:Str}{st:Stmt}{f:Addr}{fd:FuncData}{N ps:List Str}{k:Nat}{sp:Sp}(F:CS K x qual st f fd)(S:ay N ps (am st))(len:∀vs H Q E,sp vs H Q E→vs.length=ps.length)
    (hbody:∀(cdv:Value) (A:Around) (outer:List Env) (s:Shared) (H:Hp) (vs:List V) (Q:VK) (E:XK),c9 k (A.deeper (envOfC qual (am st) ↑s f cdv))→sp vs H Q E→
      ∃t,lp (eK bj P w K mg base N qual (am st) f cdv A outer s H E).nox (cw st) t∧t {nx:=fun _ H'=>Q .non H',rt:=Q} (eG N vs) H):au P w K mg base bj (k+1) f fd ps sp:=by
  obtain⟨oc,od,kV,doc,pm,an,cdv,ct,osl,rfl,lk,hcd⟩:=F.ex
  refine C6 lk hcd S len fun A outer s H vs Q E hr hsp=>?_
  obtain⟨t,h,q⟩:=hbody cdv A outer s H vs Q E hr hsp
  exact⟨t,h.nox,q⟩
theorem CS.binds{x qual:Str}{st:Stmt}{f:Addr}{fd:FuncData}{ps:List Str}(F:CS K x qual st f fd)
    (h:∀(kV doc pm:Value) (an:Option Addr) (cdv ct:Value) (us:List Value),us.length=ps.length→bindArgs (PySem.W.fnOf x qual (ec st) (cw st) (am st) .none kV doc pm an cdv ct) ⟨us,[]⟩=pure (ps.zip us)):ox K fd ps []:=by
  obtain⟨oc,od,kV,doc,pm,an,cdv,ct,osl,rfl,lk,hcd⟩:=F.ex
  exact .all (h kV doc pm an cdv ct)
theorem y9{x qual:Str}{st:Stmt}{f:Addr}{oc:Value}{od an:Option Addr}{osl:Array (Option Value)}{kV doc pm cdv ct:Value}(l:K.lookup f=some ⟨oc,od,.func (PySem.W.fnOf x qual (ec st) (cw st) (am st) .none kV doc pm an cdv ct),osl⟩)
    (c:PySem.W.codeIn K cdv qual=true)(k:PySem.W.keepIn K (.ref f)=true):CS K x qual st f (PySem.W.fnOf x qual (ec st) (cw st) (am st) .none kV doc pm an cdv ct):=⟨⟨oc,od,kV,doc,pm,an,cdv,ct,osl,rfl,l,c⟩,k⟩
end
theorem q5{n:Nat}(h:n≤1000):n < sizeLine:=Nat.lt_of_le_of_lt h ⋯
section
variable{X:Cx}
theorem pv(i:Nat){x:Str}{pos:Pos}(hN:X.N[i]?=some x:=by rfl)(hv:yK X.env.scope x:=by first | exact Or.inl rfl | exact Or.inr ↥3 | exact Or.inr (Or.inr rfl))(hd:(x==("__debug__":Str))=false:=by decide)
    (hcd:(x==("__classdict__":Str))=false:=by decide):PE X (.Name x pos) (AW i):=jR hN hv hd hcd
end
theorem xT{A B:Prop}(h:B):if false=true then A else B:=by
  rw [if_neg Bool.false_ne_true]
  exact h
theorem zq{A B:Prop}(h:A):if true=true then A else B:=by
  rw [if_pos rfl]
  exact h
def aC(H H':Hp):Prop:=∀b o,H b=some o→H' b=some o
theorem aC.refl(H:Hp):aC H H:=fun _ _ h=>h
theorem aC.trans{H H1 H2:Hp}(a:aC H H1)(b:aC H1 H2):aC H H2:=fun c o h=>b c o (a c o h)
theorem aC.free{H H':Hp}(e:aC H H'){l:Addr}(h:H' l=Option.none):H l=Option.none:=by
  cases q:H l with
  | none=>rfl
  | some o=>
    rw [e l o q] at h
    cases h
theorem aC.seq{K:⇑0}{H H':Hp}{a:Addr}{xs:List V}(e:aC H H')(h:dS K H a xs):dS K H' a xs:=by
  rcases h with (h | ⟨o,h⟩) | h
  · exact .inl (.inl (e _ _ h))
  · exact .inl (.inr ⟨o,e _ _ h⟩)
  · exact .inr h
end L2
set_option maxHeartbeats 4000000
namespace L2
open PySem PySem.Spec PyProof.Rows
def Bt(n:Nat)(i:Int):Prop:=i.natAbs < 2 ^ n
theorem Bt.mono{m n:Nat}{i:Int}(h:Bt m i)(hm:m≤n):Bt n i:=Nat.lt_of_lt_of_le h (Nat.pow_le_pow_right ⋯ hm)
theorem Bt.mul{m n:Nat}{i j:Int}(h:Bt m i)(h':Bt n j):Bt (m+n) (i*j):=by
  unfold Bt at*
  rw [Int.natAbs_mul,Nat.pow_add]
  exact Nat.mul_lt_mul'' h h'
theorem Bt.log{m:Nat}{i:Int}(h:Bt m i)(hm:0 < m):i.natAbs.log2 < m:=by
  unfold Bt at h
  rcases Nat.eq_zero_or_pos i.natAbs with h0 | hp
  · rw [h0];exact hm
  · exact(Nat.log2_lt ↥0).mpr h
theorem Bt.bits{m:Nat}{i:Int}(h:Bt m i)(hm:0 < m):Builtin.Int.intBits i≤m:=by
  unfold Builtin.Int.intBits
  split
  · exact Nat.zero_le _
  · exact h.log hm
theorem Bt.of_le{m:Nat}{i:Int}{j:Int}(h:Bt m j)(e:i.natAbs≤j.natAbs):Bt m i:=Nat.lt_of_le_of_lt e h
section
variable{X:Cx}
def CO(i j:Int):Prop:=Bt 4000 i∧Bt 4000 j
theorem BU:jv X (binaryOp .Mult) (rI CO fun i j=>.int (i*j)):=Ft fun _ _ _ _ _ _ _ hc q=>
  mul_int q (.of_bits (Nat.le_trans (hc.1.bits ⋯) ⋯) (Nat.le_trans (hc.2.bits ⋯) ⋯))
def CN(i j:Int):Prop:=j≠0∧Bt 8000 j
theorem zP:jv X (binaryOp .FloorDiv) (rI CN fun i j=>.int (i.fdiv j)):=Ft fun _ _ _ _ _ _ _ hc q=>
  floordiv_int hc.1 q (.inl (PyProof.noPylong_of_log2 (Nat.lt_trans (hc.2.log ⋯) ⋯)))
end
def mW(H H':Hp):Prop:=∀a o,H a=some o→(∀xs,o≠.lst xs)→(∀ob xs,o≠.frz ob (.lst xs))→H' a=some o
theorem mW.trans{H H1 H2:Hp}(a:mW H H1)(b:mW H1 H2):mW H H2:=fun c o h n m=>b c o (a c o h n m) n m
theorem aC.ts{H H':Hp}(h:aC H H'):mW H H':=fun a o e _ _=>h a o e
theorem mW.tup{K:⇑0}{H H':Hp}(h:mW H H'){a:Addr}{xs:List V}(q:cm K H a xs):cm K H' a xs:=by
  rcases q with (q | ⟨o,q⟩) | q
  · exact .inl (.inl (h _ _ q (fun _ e=>nomatch e) (fun _ _ e=>nomatch e)))
  · exact .inl (.inr ⟨o,h _ _ q (fun _ e=>nomatch e) (fun _ _ e=>nomatch e)⟩)
  · exact .inr q
section
variable{X:Cx}
end
structure aT (K:⇑0) (mg:Str→Option Value) (x:Str) (st:Stmt) (f:Addr) (fd:FuncData) (ps:List Str):Prop where
  F:CS K x x st f fd
  m:mg x=some (.ref f)
  b:ox K fd ps []
theorem DQ{K:⇑0}{mg:Str→Option Value}{h:Heap}{x:Str}{st:Stmt}{f:Addr}{ps:List Str}{oc:Value}{od an:Option Addr}{osl:Array (Option Value)}{kV doc pm cdv ct:Value}(X:K.In h)(G:h.Ns mainGlobals mg)(a:PySem.W.nsIn K mainGlobals x=some (some (.ref f)))
    (l:K.lookup f=some ⟨oc,od,.func (PySem.W.fnOf x x (ec st) (cw st) (am st) .none kV doc pm an cdv ct),osl⟩)(c:PySem.W.codeIn K cdv x=true)(k:PySem.W.keepIn K (.ref f)=true)
    (hb:∀(kV doc pm:Value) (an:Option Addr) (cdv ct:Value) (us:List Value),us.length=ps.length→bindArgs (PySem.W.fnOf x x (ec st) (cw st) (am st) .none kV doc pm an cdv ct) ⟨us,[]⟩=pure (ps.zip us)):
    aT K mg x st f (PySem.W.fnOf x x (ec st) (cw st) (am st) .none kV doc pm an cdv ct) ps:=⟨y9 l c k,PySem.W.mg_of X G a,(y9 l c k).binds hb⟩
theorem Hx{X:Cx}{x:Str}{st:Stmt}{f:Addr}{fd:FuncData}{ps:List Str}{k:Nat}{sp:Sp}{e:Expr}{es:List Expr}{t:TA}{p pos:Pos}(h:aT X.K X.mg x st f fd ps)(G:au X.prog X.w X.K X.mg X.base bj k f fd ps sp)(hr:c9 k X.A)(ha:PA X (e::es) t)
    (hg:Gl X x:=by rfl)(hdb:(x==("__debug__":Str))=false:=by decide)(he:starEach (e::es) X.env=(false,eval e X.env)::starEach es X.env:=by rfl)(hpl:(backTo pos (starEach es X.env)).any (·.1)=false:=by rfl):
    PE X (.Call (.Name x p) (e::es) [] pos) (AU sp [] E0 t):=BY G hr hg h.m h.F.kp h.b .nil Ge ha hdb he hpl
theorem aC.new{H:Hp}{p:Addr}{o:HO}(h:H p=none):aC H (a_ H p o):=fun b u e=>by
  rw [ar (eN e h)];exact e
theorem aC.tup{K:⇑0}{H H':Hp}{a:Addr}{xs:List V}(e:aC H H')(h:cm K H a xs):cm K H' a xs:=e.ts.tup h
def lowM(t b:Int):Int × Int:=if b < 0 then(t.fdiv (-(Int.gcd t b:Int)),b.fdiv (-(Int.gcd t b:Int))) else(t.fdiv (Int.gcd t b:Int),b.fdiv (Int.gcd t b:Int))
theorem tP(x y:Int):Int.gcd y (x.fmod y)=Int.gcd x y:=by
  rw [Int.fmod_def,Int.gcd_sub_mul_left_right,Int.gcd_comm]
theorem ia(x:Int){y:Int}(h:y≠0):(x.fmod y).natAbs < y.natAbs:=by
  rcases Int.lt_or_gt_of_ne h with h | h
  · have h1:x.fmod y= -((-x).fmod (-y)):=by
      have:=Int.neg_fmod_neg x y
      lia
    have h2:=Int.fmod_nonneg_of_pos (-x) (b:= -y) ↥0
    have h3:=Int.fmod_lt_of_pos (-x) (b:= -y) ↥0
    lia
  · have h2:=Int.fmod_nonneg_of_pos x h
    have h3:=Int.fmod_lt_of_pos x h
    lia
theorem rW{t b:Int}(h:b≠0):(0:Int) < Int.gcd t b:=by
  have:=Int.gcd_pos_of_ne_zero_right t h
  lia
theorem iO{t b:Int}(h:b≠0):∃d:Int,d.natAbs=Int.gcd t b∧d≠0∧(lowM t b).1*d=t∧(lowM t b).2*d=b∧0 < (lowM t b).2:=by
  have hg:=rW (t:=t) h
  have d1:(Int.gcd t b:Int) ∣ t:=Int.gcd_dvd_left ..
  have d2:(Int.gcd t b:Int) ∣ b:=Int.gcd_dvd_right ..
  unfold lowM
  split
  · rename_i hb
    have e1:t.fdiv (-(Int.gcd t b:Int))*(-(Int.gcd t b:Int))=t:=Int.fdiv_mul_cancel (Int.neg_dvd.mpr d1)
    have e2:b.fdiv (-(Int.gcd t b:Int))*(-(Int.gcd t b:Int))=b:=Int.fdiv_mul_cancel (Int.neg_dvd.mpr d2)
    refine⟨-(Int.gcd t b:Int),by lia,by lia,e1,e2,?_⟩
    show 0 < b.fdiv (-(Int.gcd t b:Int))
    have h3:b.fdiv (-(Int.gcd t b:Int))*(Int.gcd t b:Int)= -b:=by rw [Int.mul_neg] at e2;lia
    exact Int.pos_of_mul_pos_left ↥0 ↥0 (b:=(Int.gcd t b:Int))
  · rename_i hb
    have e1:t.fdiv (Int.gcd t b:Int)*(Int.gcd t b:Int)=t:=Int.fdiv_mul_cancel d1
    have e2:b.fdiv (Int.gcd t b:Int)*(Int.gcd t b:Int)=b:=Int.fdiv_mul_cancel d2
    refine⟨(Int.gcd t b:Int),by lia,by lia,e1,e2,?_⟩
    show 0 < b.fdiv (Int.gcd t b:Int)
    exact Int.pos_of_mul_pos_left ↥0 ↥0 (b:=(Int.gcd t b:Int))
theorem oU{t b:Int}(h:b≠0):Int.gcd (lowM t b).1 (lowM t b).2=1:=by
  obtain⟨d,h1,h2,h3,h4,h5⟩:=iO (t:=t) h
  have e:Int.gcd ((lowM t b).1*d) ((lowM t b).2*d)=Int.gcd (lowM t b).1 (lowM t b).2*d.natAbs:=Int.gcd_mul_right ..
  rw [h3,h4,←h1] at e
  have hd:0 < d.natAbs:=by lia
  exact(Nat.eq_of_mul_eq_mul_right hd (by rw [Nat.one_mul];exact e)).symm
theorem vk{t b:Int}(h:b≠0):(lowM t b).1*b=(lowM t b).2*t:=by
  obtain⟨d,h1,h2,h3,h4,h5⟩:=iO (t:=t) h
  generalize (lowM t b).1=x at*
  generalize (lowM t b).2=y at*
  subst h3 h4
  rw [←Int.mul_assoc,←Int.mul_assoc,Int.mul_comm x]
theorem zg{t b:Int}(h:b≠0){n:Nat}(hb:Bt n b):Bt n (Int.gcd t b:Int):=by
  refine hb.of_le ?_
  have h1:=Nat.le_of_dvd (show 0 < b.natAbs by lia) (Int.ofNat_dvd.mp (by rw [Int.dvd_natAbs];exact Int.gcd_dvd_right t b))
  lia
mutual
def cnt:PyData→Nat
  | .tuple ds=>1+kU ds
  | .str _=>0
  | _=>1
def kU:List PyData→Nat
  | []=>0
  | d::ds=>cnt d+kU ds
end
mutual
def o_:PyData→Bool
  | .tuple ds=>iU ds
  | .str _=>false
  | .list _=>false
  | .dict _=>false
  | _=>true
def iU:List PyData→Bool
  | []=>true
  | d::ds=>o_ d&&iU ds
end
theorem p_{a:Int}(h:a.natAbs.log2 < 1920):(Str.ofString (toString a)).length≤1921:=by
  have e:=int_text_length_le (k:=1920) ⋯ h
  rw [PySem.ofString_length];lia
theorem pB(x:Str)(r:List Str):piled (x::r)=x.length+2+piled r:=by
  simp [piled]
theorem rk(ts:List Str):(tupleText ts).length≤piled ts+3:=by
  unfold tupleText
  rw [strLen_append,strLen_append]
  have h1:(("(":Str)).length=1:=by decide
  have h2:(Str.ofString (if (ts.length==1)=true then ",)" else ")")).length≤2:=by split<;>decide
  have h3:(Str.join ", " ts).length≤piled ts:=by
    cases ts with
    | nil=>show(Str.join ", " []).length≤0;decide
    | cons x r=>have:=join_length_add (x::r) ↥1;lia
  lia
mutual
theorem qY:∀{d:PyData},o_ d=true→d.showable=true→d.shown.length+2≤2000*cnt d
  | .none,_,_=>by show(Str.ofString "None").length+2≤2000*1;decide
  | .bool b,_,_=>by
    cases b
    · show(Str.ofString "False").length+2≤2000*1;decide
    · show(Str.ofString "True").length+2≤2000*1;decide
  | .int i,_,hs=>by
    simp only [PyData.showable,decide_eq_true_eq] at hs
    have:=p_ hs
    show(Str.ofString (toString i)).length+2≤2000*1
    lia
  | .tuple ds,hn,hs=>by
    simp only [PyData.showable] at hs
    simp only [o_] at hn
    have h1:=me hn hs
    have h2:=rk (PyData.shownAll ds)
    simp only [PyData.shown,cnt]
    lia
  | .str _,hn,_=>by simp [o_] at hn
  | .list _,hn,_=>by simp [o_] at hn
  | .dict _,hn,_=>by simp [o_] at hn
theorem me:∀{ds:List PyData},iU ds=true→PyData.showableAll ds=true→piled (PyData.shownAll ds)≤2000*kU ds
  | [],_,_=>by simp [PyData.shownAll,piled]
  | d::ds,hn,hs=>by
    simp only [iU,Bool.and_eq_true] at hn
    simp only [PyData.showableAll,Bool.and_eq_true] at hs
    have h1:=qY hn.1 hs.1
    have h2:=me hn.2 hs.2
    simp only [PyData.shownAll,kU,pB]
    lia
end
def gG(env:Env):List (Str × NameKind)→List (Str × Addr)→List (Str × Addr)
  | [],cs=>cs
  | (n,k)::r,cs=>gG env r (if k==.free then(n,(env.cells.lookup n).getD 0)::cs else cs)
theorem lE{env:Env}:∀(names:List (Str × NameKind)) (cs:List (Str × Addr)),(∀y∈names,y.2=.free→∃c,env.cells.lookup y.1=some c)→
    (forIn names cs (fun(x:Str × NameKind) (r:List (Str × Addr))=>(if (x.2==NameKind.free)=true then do let a ←cellOf env x.1;pure (ForInStep.yield ((x.1,a)::r)) else pure (ForInStep.yield r):Sem (ForInStep (List (Str × Addr))))):Sem (List (Str × Addr)))=pure (gG env names cs)
  | [],cs,_=>rfl
  | (n,k)::r,cs,h=>by
    rw [List.forIn_cons]
    have ih:=fun cs'=>lE (env:=env) r cs' (fun y hy=>h y (List.mem_cons_of_mem _ hy))
    by_cases hk:(k==NameKind.free)=true
    · have hk':k=.free:=by simpa using hk
      obtain⟨c,hc⟩:=h (n,k) List.mem_cons_self hk'
      have e:cellOf env n=pure c:=by unfold cellOf;rw [hc]
      simp only [hk,if_true,e,pure_bind,gG,hc,Option.getD_some]
      exact ih _
    · have hk':(k==NameKind.free)=false:=by simpa using hk
      simp only [hk',Bool.false_eq_true,if_false,pure_bind,gG]
      exact ih _
theorem kS{scope:Scope}{env:Env}(h:∀y∈scope.names,y.2=.free→∃c,env.cells.lookup y.1=some c):closureFor scope env=pure (gG env scope.names []):=by
  have e:=lE (env:=env) scope.names [] h
  unfold closureFor
  simp only [pure_bind,bind_pure] at e ⊢
  exact e
theorem i8{env:Env}:∀(names:List (Str × NameKind)) (cs:List (Str × Addr)) (x:Str) (c:Addr),(∀y∈names,y.2=.free→∃c,env.cells.lookup y.1=some c)→(∀x c,cs.lookup x=some c→env.cells.lookup x=some c)→(gG env names cs).lookup x=some c→env.cells.lookup x=some c
  | [],cs,x,c,_,hs,h=>hs x c h
  | (n,k)::r,cs,x,c,hn,hs,h=>by
    refine i8 r _ x c (fun y hy=>hn y (List.mem_cons_of_mem _ hy)) (fun x' c' e=>?_) h
    by_cases hk:(k==NameKind.free)=true
    · rw [if_pos hk] at e
      obtain⟨c0,hc⟩:=hn (n,k) List.mem_cons_self (by simpa using hk)
      rw [List.lookup_cons] at e
      cases hx:x'==n with
      | true=>
        rw [hx] at e
        have e1:x'=n:=by simpa using hx
        subst e1
        simp only [hc,Option.getD_some,Option.some.injEq] at e
        rw [←e];exact hc
      | false=>rw [hx] at e;exact hs x' c' e
    · rw [if_neg hk] at e
      exact hs x' c' e
theorem lD{env:Env}:∀(names:List (Str × NameKind)) (cs:List (Str × Addr)) (x:Str),((∃y∈names,y.1=x∧y.2=.free)∨∃c,cs.lookup x=some c)→∃c,(gG env names cs).lookup x=some c
  | [],cs,x,h=>by
    rcases h with ⟨y,hy,_⟩ | h
    · cases hy
    · exact h
  | (n,k)::r,cs,x,h=>by
    refine lD r _ x ?_
    by_cases hk:(k==NameKind.free)=true
    · rw [if_pos hk,List.lookup_cons]
      cases hx:x==n with
      | true=>exact .inr ⟨_,rfl⟩
      | false=>
        rcases h with ⟨y,hy,e1,e2⟩ | h
        · rcases LJ hy with z | z
          · subst z;subst e1;simp at hx
          · exact .inl ⟨y,z,e1,e2⟩
        · exact .inr h
    · rw [if_neg hk]
      rcases h with ⟨y,hy,e1,e2⟩ | h
      · rcases LJ hy with z | z
        · subst z;exact absurd (by simpa using e2) hk
        · exact .inl ⟨y,z,e1,e2⟩
      · exact .inr h
theorem cz{env:Env}:∀{names:List (Str × NameKind)} {x:Str},(∀y∈names,y.2≠.cell)→(names.map fun(n,k)=>if (k==NameKind.free&&env.scope.kind==.function&&env.kindOf n==some .cell) then(n,NameKind.cell) else(n,k)).lookup x=some .cell∨
    (names.map fun(n,k)=>if (k==NameKind.free&&env.scope.kind==.function&&env.kindOf n==some .cell) then(n,NameKind.cell) else(n,k)).lookup x=some .free→∃y∈names,y.1=x∧y.2=.free
  | [],x,_,h=>by simp at h
  | (n,k)::r,x,hc,h=>by
    have ih:=@cz env r x (fun y hy=>hc y (List.mem_cons_of_mem _ hy))
    have nc:k≠.cell:=hc (n,k) List.mem_cons_self
    rw [List.map_cons] at h
    cases hx:x==n with
    | true=>
      have e1:x=n:=by simpa using hx
      subst e1
      refine⟨(x,k),List.mem_cons_self,rfl,?_⟩
      by_cases q:(k==NameKind.free&&env.scope.kind==.function&&env.kindOf x==some .cell)=true
      · simp only [Bool.and_eq_true,beq_iff_eq] at q;exact q.1.1
      · simp only [q,Bool.false_eq_true,if_false,List.lookup_cons,beq_self_eq_true,Option.some.injEq] at h
        rcases h with h | h
        · exact absurd h nc
        · exact h
    | false=>
      have e2:∀(l:List (Str × NameKind)),((if (k==NameKind.free&&env.scope.kind==.function&&env.kindOf n==some .cell)=true then(n,NameKind.cell) else(n,k))::l).lookup x=l.lookup x:=fun l=>by
        split<;>simp [List.lookup_cons,hx]
      simp only [e2] at h
      obtain⟨y,hy,z⟩:=ih h
      exact⟨y,List.mem_cons_of_mem _ hy,z⟩
theorem dw{env:Env}:∀{names:List (Str × NameKind)} {x:Str},names.lookup x=some .free→
    (names.map fun(n,k)=>if (k==NameKind.free&&env.scope.kind==.function&&env.kindOf n==some .cell) then(n,NameKind.cell) else(n,k)).lookup x≠some .local
  | [],x,h=>by simp at h
  | (n,k)::r,x,h=>by
    rw [List.map_cons]
    cases hx:x==n with
    | true=>
      simp only [hx,List.lookup_cons] at h
      cases h
      show List.lookup x ((if (NameKind.free==NameKind.free&&env.scope.kind==.function&&env.kindOf n==some .cell)=true then(n,NameKind.cell) else(n,NameKind.free))::_)≠_
      split<;>simp [List.lookup_cons,hx]
    | false=>
      simp only [hx,List.lookup_cons] at h
      have ih:=@dw env r x h
      have e2:∀(l:List (Str × NameKind)),((if (k==NameKind.free&&env.scope.kind==.function&&env.kindOf n==some .cell)=true then(n,NameKind.cell) else(n,k))::l).lookup x=l.lookup x:=fun l=>by
        split<;>simp [List.lookup_cons,hx]
      simp only [e2]
      exact ih
def av(X:Cx)(scope:Scope)(cp:List (Nat × Str))(tgN:List Str)(C:Addr)(s0:Shared)(H0:Hp)(fp:List Addr):Cx where
  prog:=X.prog
  w:=X.w
  K:=X.K
  mg:=X.mg
  base:=X.base
  A:=X.A
  N:=cp.map (·.2)++tgN
  s₀:=s0
  H₀:=H0
  env:=compEnvC scope (gG X.env scope.names []) C X.env
  outer:=X.stack
  stack:=X.stack
  ex:=fp
  fn:=fun x=>scope.names.lookup x==some .local
  calm:=X.calm
  pn:=[]
  xe:=fun _ _=>False
def uO(X:Cx)(ifs:List Expr)(t:TT):Prop:=
  ∀(pins:List (Addr × Obj)) (s:Shared) (σ:L2.St) (H:Hp) (Q:Bool→Hp→Prop),aF X pins σ H s→t σ H Q→
    wpAny (model X.prog X.w) X.A (forIn ifs true fun c r=>if r=true then do let ok ←isTrue c X.env (eval c X.env);pure (ForInStep.yield ok) else pure (ForInStep.yield r)) (TP X pins σ Q) X.xe s
theorem B'{X:Cx}:uO X [] (fun _ H Q=>Q true H):=fun _ _ _ H _ I h=>wpAny_tests_nil ⟨H,I,h⟩
theorem Ca{X:Cx}{c:Expr}{t:TT}(h:PT X c t):uO X [c] t:=fun pins s σ H Q I q=>wpAny_tests_one (h pins s σ H Q I q)
abbrev wU:Value→Shared→Prop:=fun _ _=>False
def y2(prog:Program)(w:World)(A:Around)(elt tg:Expr)(ifs:List Expr)(env:Env)(it acc:Value)(onward:Shared→Prop)(v:Value)(u:Shared):Prop:=
  wpAny (model prog w) A (letOwnedTupleGo tg it v) (fun _ u1=>wpAny (model prog w) A (assign tg env v) (fun _ u2=>wpAny (model prog w) A
    (forIn ifs true fun c r=>if r=true then do let ok ←isTrue c env (eval c env);pure (ForInStep.yield ok) else pure (ForInStep.yield r)) (fun ok u3=>if ok=true then wpAny (model prog w) A (eval elt env) (fun x u4=>wpAny (model prog w) A (call (.builtin "list.append") [acc,x]) (fun _ u5=>onward u5) wU u4) wU u3 else onward u3) wU u2) wU u1) wU u
theorem lF{prog:Program}{w:World}{A:Around}{R:Result→Shared→Prop}{elt tg iter:Expr}{ifs:List Expr}{scope:Scope}{pos:Pos}{it acc:Value}{env:Env}(J:Nat→Shared→Prop)
    (turn:∀n u,J n u→wpAny (model prog w) A (pyNext it) (fun r u1=>(r=none→R (.ok .next) u1)∧∀v,r=some v→y2 prog w A elt tg ifs env it acc (fun u2=>∃m,m < n∧J m u2) v u1) wU u){n0:Nat}{u0:Shared}(eG:J n0 u0):
    codeAny (model prog w) A (.compLoop (.ListComp elt [⟨tg,iter,ifs,0⟩] scope pos) 0 it acc env) R u0:=by
  refine codeAny_loop rfl J (fun n u ju=>?_) n0 eG
  show wpAny _ A ((compTurn (.ListComp elt [⟨tg,iter,ifs,0⟩] scope pos) 0 it acc env).onRaise _) _ _ u;refine wpAny_noted ?_;rw [compTurn_list]
  refine wpAny_bind (wpAny_standAt (wpAny_bind (wpAny_mono (turn n u ju) (fun r u1 k1=>?_) fun _ _ z=>z.elim)))
  cases r with
  | none=>exact wpAny_pure (k1.1 rfl)
  | some v=>
    refine wpAny_bind (wpAny_mono (k1.2 v rfl) (fun _ u2 k2=>wpAny_bind (wpAny_mono k2 (fun _ u3 k3=>wpAny_bind (wpAny_mono k3 (fun ok u4 k4=>?_) fun _ _ z=>z.elim)) fun _ _ z=>z.elim)) fun _ _ z=>z.elim)
    cases ok with
    | false=>rw [if_neg Bool.false_ne_true] at k4;exact wpAny_pure ⟨rfl,k4⟩
    | true=>
      rw [if_pos rfl] at k4
      refine wpAny_bind (wpAny_bind (wpAny_mono k4 (fun x u5 k5=>wpAny_bind (wpAny_mono k5 (fun _ u6 k6=>?_) fun _ _ z=>z.elim)) fun _ _ z=>z.elim));exact wpAny_pure (wpAny_pure ⟨rfl,k6⟩)
def dU(cp:List (Nat × Str))(nT:Nat)(σ:L2.St):L2.St:=cp.map (fun p=>(σ[p.1]?).join)++List.replicate nT none
structure xl (cp:List (Nat × Str)) (nT:Nat) (wi:TI) (g:TG) (tc:TT) (te:TE) (σ:L2.St) (H:Hp) (Q:VK):Prop where
  go:wi σ H fun J H1=>∀l,H1 l=none→
  ∃W:Nat→Nat→L2.St→Hp→Prop,(∃m,W 0 m (dU cp nT σ) (a_ H1 l (.lst [])))∧∀i m σ' H',W i m σ' H'→
    (J.stop i H'∧Q (.ref l) H')∨(J.go i H'∧∃N:L2.St→Hp→Prop,(∀σ2 H2,N σ2 H2→∃m',m' < m∧W (i+1) m' σ2 H2)∧
      ∀x H2,J.yld i H' x H2→g x σ' H2 fun σ2 H3=>tc σ2 H3 fun b H4=>if b=true then te σ2 H4 fun v H5=>∃ys,H5 l=some (.lst ys)∧ys.length < sizeLine∧N σ2 (a_ H5 l (.lst (ys++[v]))) else N σ2 H4)
theorem B0{X:Cx}{elt iter tg:Expr}{ifs:List Expr}{scope:Scope}{pos:Pos}{wi:TI}{g:TG}{tc:TT}{te:TE}(sc0:Scope)(N0:List Str)(cp:List (Nat × Str))(tgN:List Str)
    (hc:X.calm=true)(hsc:X.env.scope=sc0)(hN0:X.N=N0)(hi:PI X tg iter wi)
    (hg:∀C s0 H0 fp,PG (av X scope cp tgN C s0 H0 fp) tg g)
    (ht:∀C s0 H0 fp,uO (av X scope cp tgN C s0 H0 fp) ifs tc)
    (he:∀C s0 H0 fp,PE (av X scope cp tgN C s0 H0 fp) elt te)
    (hk:scope.kind=.function)(hcell:∀y∈scope.names,y.2≠.cell)(hnames:∀y∈scope.names,y.2=.local→scope.names.lookup y.1=some .local)
    (hfr:∀y∈scope.names,y.2=.free→scope.names.lookup y.1=some .free∧sc0.names.lookup y.1=some .cell)
    (hcp:∀p∈cp,N0[p.1]?=some p.2)(hcq:∀p∈cp,sc0.names.lookup p.2=some .cell∧scope.names.lookup p.2=some .free)
    (hs:∀x,foldedSetIterable iter X.env x=pure x:=by intro _;rfl):
    PE X (.ListComp elt [⟨tg,iter,ifs,0⟩] scope pos) (xl cp tgN.length wi g tc te):=by
  intro pins s σ H Q I h
  have hkind:∀x,X.env.kindOf x=sc0.names.lookup x:=fun x=>by unfold Env.kindOf;rw [hsc]
  have hfree:∀y∈scope.names,y.2=.free→∃c,X.env.cells.lookup y.1=some c:=fun y hy e=>I.ok.has y.1 (.inl (by rw [hkind];exact(hfr y hy e).2))
  rw [eval_ListComp]
  refine wpAny_comprehension_free (use:=none) rfl hs (kS hfree) hk hnames (wpAny_mono (hi pins s σ H _ I h.go) (fun xv s₁ h₁=>wpAny_mono h₁ (fun itv s₂ h₂=>?_) fun _ _ e=>e) fun _ _ e=>e)
  obtain⟨it,fp,tn,J,H2,rfl,I2,T,st2,f2,hq⟩:=h₂
  refine wpAny_newObj_type ?_
  have hlF:H2 ↑s₂=none:=I2.hok.fresh ↥8
  have I3:aF X pins σ (a_ H2 ↑s₂ (.lst [])) {s₂ with heap:=s₂.heap.push {cls:=.type "list",data:=.seq ([]:List Value).toArray}}:=I2.lnew (t':=s₂.toks) .nil (Nat.zero_le _)
  obtain⟨W,⟨m0,w0⟩,turn⟩:=hq _ hlF
  have f3:∀b∈fp,f_ X pins (a_ H2 ↑s₂ (.lst [])) b:=fun b hb=>by
    obtain⟨f0,fr⟩:=f2 b hb
    obtain⟨o,ho,_⟩:=T.obj _ _ st2 b hb
    exact⟨by rw [ar (Nat.ne_of_lt (Heap.lt_size ho))];exact f0,fr⟩
  have st3:tn 0 (s₂.heap.push {cls:=.type "list",data:=.seq ([]:List Value).toArray}):=T.keep _ _ _ st2 fun b _ o e=>Heap.get?_push_of_some _ e
  generalize hD:↑s₂=D at*
  generalize hs3:({s₂ with heap:=s₂.heap.push {cls:=.type "list",data:=.seq ([]:List Value).toArray}}:Shared)=s₃ at*
  have hst3:tn 0 s₃.heap:=by rw [←hs3];exact st3
  refine wpAny_newFunctionEnv hcell (by intro y hy;simp at hy) (fun h₁ hns₁ hsb₁=>?_) hk
  generalize hC:↑s₃=C at*
  have old:∀b o,s₃.heap.get? b=some o→h₁.get? b=some o:=fun b o e=>hsb₁.extBut b o (by rw [←hC];exact Nat.ne_of_lt (Heap.lt_size e)) (Heap.get?_push_of_some _ e)
  have nC:∀b o,s₃.heap.get? b=some o→b≠C:=fun b o e=>by rw [←hC];exact Nat.ne_of_lt (Heap.lt_size e)
  have hHC:(a_ H2 D (.lst [])) C=none:=I3.hok.fresh (by rw [hC];exact Nat.le_refl _)
  have clS:∀x c,(gG X.env scope.names []).lookup x=some c→X.env.cells.lookup x=some c:=fun x c e=>i8 _ _ x c hfree (fun _ _ z=>by simp at z) e
  have clH:∀x,(∃y∈scope.names,y.1=x∧y.2=.free)→∃c,(gG X.env scope.names []).lookup x=some c:=fun x e=>lD _ _ x (.inl e)
  have ok':(av X scope cp tgN C s₃ (a_ H2 D (.lst [])) fp).Ok:=by
    refine⟨I.ok.mod,hk,I.ok.glob,I.ok.blt,by rw [←hC];exact Nat.le_refl _,fun x y c e1 e2=>I.ok.inj x y c (clS _ _ e1) (clS _ _ e2),fun x e=>clH x (cz hcell e),fun x c e1 e2=>?_,I.ok.hd,I.ok.frames,.inl rfl,fun b hb=>?_,fun b o e=>I3.bs b o e,?_,fun b o e hb=>?_,fun b hb z=>?_,I3.stack,fun b hb=>I3.stkFree b hb⟩
    · exfalso
      have e1':scope.names.lookup x=some .local:=by simpa [av] using e1
      have e2':=clS x c e2
      obtain⟨c',hc'⟩:∃y∈scope.names,y.1=x∧y.2=.free:=by
        by_cases q:∃y∈scope.names,y.1=x∧y.2=.free
        · exact q
        · exfalso
          have:∀(names:List (Str × NameKind)) (cs:List (Str × Addr)),(¬∃y∈names,y.1=x∧y.2=.free)→cs.lookup x=none→(gG X.env names cs).lookup x=none:=by
            intro names
            induction names with
            | nil=>intro cs _ h;exact h
            | cons y r ih=>
              intro cs hn hcs
              obtain⟨n,k⟩:=y
              refine ih _ (fun⟨y,hy,z⟩=>hn ⟨y,List.mem_cons_of_mem _ hy,z⟩) ?_
              by_cases hk:(k==NameKind.free)=true
              · rw [if_pos hk,List.lookup_cons]
                cases hx:x==n with
                | true=>exact absurd ⟨(n,k),List.mem_cons_self,(by simpa using hx:x=n).symm,by simpa using hk⟩ hn
                | false=>exact hcs
              · rw [if_neg hk];exact hcs
          have z:=this scope.names [] q rfl
          have e2'':(gG X.env scope.names []).lookup x=some c:=e2
          rw [z] at e2'';cases e2''
      have z:=(hfr c' hc'.1 hc'.2.2).1
      rw [hc'.2.1,e1'] at z;cases z
    · obtain⟨f0,f1,f4,f5,f6,f7⟩:=f3 b hb
      obtain⟨o,ho,_⟩:=T.obj _ _ hst3 b hb
      exact⟨nC b o ho,fun x c e=>f6 x c (clS x c e)⟩
    · exact Nat.le_trans I.ok.bsz I3.sz
    · obtain⟨f0,f1,f4,f5,f6,f7⟩:=f3 b hb
      rcases f5 with z | z
      · exact I.ok.noex b o e z
      · have:=(I.ok.bs b o e).1
        exact absurd (Nat.lt_of_lt_of_le (Heap.lt_size this) z) (Nat.lt_irrefl _)
    · obtain⟨f0,f1,f4,f5,f6,f7⟩:=f3 b hb
      rcases LJ (I3.stkSub b z) with z | z
      · exact f1 z
      · exact f4 z
  have I4:aF (av X scope cp tgN C s₃ (a_ H2 D (.lst [])) fp) [] (dU cp tgN.length σ) (a_ H2 D (.lst [])) {s₃ with heap:=h₁,toks:=s₃.toks+([]:List (Str × Value)).length}:=by
    refine⟨ok',rfl,I3.bare,Un.kept old,⟨_,hns₁,fun i x v e1 e2 e3=>?_⟩,fun x c e=>?_,hHC,fun x c e=>I3.freeC x c (clS x c e),fun p hp=>by simp [av] at hp,I3.hok.kept old,by simp [dU,av]⟩
    · have hlt:i < cp.length:=by
        by_cases q:i < cp.length
        · exact q
        · exfalso
          unfold dU at e2
          rw [List.getElem?_append_right ↥7] at e2
          rw [List.getElem?_replicate] at e2
          split at e2<;>cases e2
      have e1':(cp.map (·.2))[i]?=some x:=by
        have e1'':(cp.map (·.2)++tgN)[i]?=some x:=e1
        rwa [List.getElem?_append_left (by simp;exact hlt)] at e1''
      have e2':(cp.map (fun p=>(σ[p.1]?).join))[i]?=some (some v):=by
        unfold dU at e2
        rwa [List.getElem?_append_left (by simp;exact hlt)] at e2
      rw [List.getElem?_map,List.getElem?_eq_getElem hlt] at e1' e2'
      have ex:(cp[i]).2=x:=by simpa using e1'
      have ev:(σ[(cp[i]).1]?).join=some v:=by simpa using e2'
      have ev':σ[(cp[i]).1]?=some (some v):=by
        cases q:σ[(cp[i]).1]? with
        | none=>rw [q] at ev;cases ev
        | some z=>rw [q] at ev;simp only [Option.join_some] at ev;rw [ev]
      have hN:=hcp cp[i] (List.getElem_mem hlt)
      rw [←hN0] at hN
      obtain⟨hcl,hcf⟩:=hcq cp[i] (List.getElem_mem hlt)
      rw [ex] at hN hcl hcf
      obtain⟨m,hn,hl⟩:=I3.loc
      obtain⟨u,r,l⟩:=hl _ x v hN ev' (.inr (.inl (by rw [hsc];exact hcl)))
      refine⟨u,r,.inr ?_⟩
      rcases l with ⟨k1,_⟩ | ⟨k1,c,hcc,o,ho,hd⟩
      · rw [hkind,hcl] at k1;cases k1
      · have e3':(relabel scope X.env).names.lookup x=some .local∨(relabel scope X.env).names.lookup x=some .cell∨(relabel scope X.env).names.lookup x=some .free:=e3
        have nl:(relabel scope X.env).names.lookup x=some .cell∨(relabel scope X.env).names.lookup x=some .free:=by
          rcases e3' with z | z | z
          · exact absurd z (dw hcf)
          · exact .inl z
          · exact .inr z
        obtain⟨c',hc'⟩:=clH x (cz hcell nl)
        have:=clS x c' hc'
        rw [hcc] at this;cases this
        exact⟨nl,c,hc',o,old c o ho,hd⟩
    · obtain⟨v,o,ho,hd⟩:=I3.cell x c (clS x c e)
      exact⟨v,o,old c o ho,hd⟩
  have hst4:tn 0 h₁:=T.keep _ _ _ hst3 fun b _ o e=>old b o e
  have loop:codeAny (model X.prog X.w) X.A (.compLoop (.ListComp elt [⟨tg,iter,ifs,0⟩] scope pos) 0 (.ref it) (.ref D) (compEnvC scope (gG X.env scope.names []) C X.env))
      (compPost (model X.prog X.w) X.A X.xe none (EP X pins σ Q) (.ref D) C) {s₃ with heap:=h₁,toks:=s₃.toks+([]:List (Str × Value)).length}:=by
    refine lF (fun n s'=>∃i σ' H',aF (av X scope cp tgN C s₃ (a_ H2 D (.lst [])) fp) [] σ' H' s'∧tn i s'.heap∧(∀b∈fp,H' b=none)∧W i n σ' H') ?_ (n0:=m0) ⟨0,_,_,I4,hst4,fun b hb=>(f3 b hb).1,w0⟩
    rintro n s5 ⟨i,σ5,H5,I5,st5,fr5,w5⟩
    have stat:∀{H':Hp},(∀b∈fp,H' b=none)→∀b∈fp,f_ (av X scope cp tgN C s₃ (a_ H2 D (.lst [])) fp) [] H' b:=fun hn b hb=>
      ⟨hn b hb,(ok'.exf b hb).1,ok'.exfs b hb,.inl hb,(ok'.exf b hb).2,fun p hp=>by simp [av] at hp⟩
    rcases turn i n σ5 H5 w5 with ⟨stop,qn⟩ | ⟨go,N,hN,step⟩
    · refine bS (T.done (av X scope cp tgN C s₃ (a_ H2 D (.lst [])) fp) rfl rfl rfl hc i [] s5 σ5 H5 (fun _ _=>False) I5 (stat fr5) st5 stop) fun r s6 ⟨hr,I6⟩=>?_
      subst hr
      refine⟨fun _=>?_,fun v z=>by cases z⟩
      obtain⟨m,hn,_⟩:=I6.loc
      refine⟨m,hn,fun h' sb=>⟨.ref D,H5,?_,rfl,qn⟩⟩
      have ub:=I6.base
      have kp:∀b u,b≠C→s6.heap.get? b=some u→h'.get? b=some u:=fun b u ne e=>sb.extBut b u ne e
      have nit:∀b u,H5 b=some u→b≠C:=fun b u e z=>by
        have:=I6.free
        rw [z] at e
        rw [show H5 C=none from this] at e;cases e
      refine I3.call' (s':={s6 with heap:=h'}) (ch:=fp) I6.os ⟨fun b o e n hb hx=>kp b o (nC b o e) (ub.keep b o e n hb hx),fun b o e n hb hx=>?_,ub.free,fun b o e hx=>?_,ub.tups,ub.frzs,ub.tbls⟩ (fun b u e=>?_) I6.bare (fun b hb=>?_)
      · obtain⟨sl,q⟩:=ub.slot b o e n hb hx
        exact⟨sl,kp b _ (nC b o e) q⟩
      · obtain⟨o',q⟩:=ub.there b o e hx
        exact⟨o',kp b _ (nC b o e) q⟩
      · refine(I6.hok b u e).stay (fun c v hc q=>kp c v ?_ q) (fun _ q=>q) fun _ _ q=>q
        rcases hc with z | z
        · rw [z];exact nit b u e
        · exact nit c _ z
      · obtain⟨f0,f1,f4,f5,f6,f7⟩:=f3 b hb
        exact⟨f5,f1,f6,f7⟩
    · refine bS (T.item (av X scope cp tgN C s₃ (a_ H2 D (.lst [])) fp) rfl rfl rfl hc i [] s5 σ5 H5 (fun _ _=>False) I5 (stat fr5) st5 go) fun r s6 ⟨u,hr,h6⟩=>?_
      subst hr
      refine⟨fun z=>(by cases z),fun v z=>?_⟩
      cases z
      refine bS h6 fun _ s7 ⟨x,H7,I7,r7,y7,st7,fr7⟩=>?_
      have I7':=I7.pinned (stat fr7) (T.obj _ _ st7)
      have again:∀{σ8:L2.St} {H8:Hp} {s8:Shared},aF (av X scope cp tgN C s₃ (a_ H2 D (.lst [])) fp) ([]++jS fp s7.heap) σ8 H8 s8→N σ8 H8→∃m,m < n∧∃i σ' H',aF (av X scope cp tgN C s₃ (a_ H2 D (.lst [])) fp) [] σ' H' s8∧tn i s8.heap∧(∀b∈fp,H' b=none)∧W i m σ' H':=fun{σ8 H8 s8} I8 n8=>by
        obtain⟨m',hm,w8⟩:=hN σ8 H8 n8
        refine⟨m',hm,i+1,σ8,H8,I8.unpinned,T.keep _ _ _ st7 fun b hb o e=>(I8.pin (b,o) (List.mem_append_right _ (List.mem_append_right _ (bW hb e)))).1,fun b hb=>?_,w8⟩
        obtain⟨o,e,d⟩:=T.obj _ _ st7 b hb
        exact(I8.pin (b,o) (List.mem_append_right _ (List.mem_append_right _ (bW hb e)))).2.1
      refine bS (hg C s₃ (a_ H2 D (.lst [])) fp _ s7 σ5 H7 x u _ I7' r7 (step x H7 y7)) fun _ s8 ⟨σ8,H8,I8,q8⟩=>?_
      refine bS (ht C s₃ (a_ H2 D (.lst [])) fp _ s8 σ8 H8 _ I8 q8) fun ok s9 ⟨H9,I9,q9⟩=>?_
      cases ok with
      | false=>
        rw [if_neg Bool.false_ne_true] at q9 ⊢
        exact again I9 q9
      | true=>
        rw [if_pos rfl] at q9 ⊢
        refine bS (he C s₃ (a_ H2 D (.lst [])) fp _ s9 σ8 H9 _ I9 q9) fun v s10 ⟨xv,H10,I10,r10,ys,hl,hz,n10⟩=>?_
        refine bS (iS _ s10 σ8 H10 (.ref D) [xv] (.ref D) [v] (fun _ H=>N σ8 H) I10 rfl (.cons r10 .nil) ⟨D,ys,xv,rfl,rfl,hl,hz,n10⟩) fun _ s11 ⟨_,H11,I11,_,q11⟩=>?_
        exact again I11 q11
  exact codeAny_compStart_list loop (T.self X.A 0 _ _ _ hst4 loop)
section
variable{X:Cx}
def Au(K:⇑0):R2:=fun x y H Q=>∃a b xs ys,x=.ref a∧y=.ref b∧cm K H a xs∧cm K H b ys∧xs.length+ys.length≤sizeLine∧∀p H',aC H H'→cm K H' p (xs++ys)→Q (.ref p) H'
theorem BO:jv X (binaryOp .Add) (Au X.K):=by
  intro pins s σ H x y v u Q I rx ry h
  obtain⟨a,b,xs,ys,rfl,rfl,ha,hb,hz,q⟩:=h
  cases rx;cases ry
  by_cases hx:xs=[]
  · obtain⟨i1,r1,p1,_⟩:=I.tuple ha
    obtain⟨i2,r2,p2,_⟩:=I.tuple hb
    obtain⟨m,F⟩:=I.fr
    have e1:i1=[]:=by subst hx;cases r1;rfl
    refine add_tuples F (zF (g:=X.base)) p1 p2 (fun _=>?_) (fun z1 _=>absurd e1 z1) (fun z1 _ _ _ _=>absurd e1 z1) (by rw [←r1.length,←r2.length];exact hz)
    exact⟨.ref b,H,I,rfl,q b H (aC.refl H) (by rw [hx];exact hb)⟩
  · exact BP pins s σ H (.ref a) (.ref b) _ _ Q I rfl rfl ⟨a,b,xs,ys,rfl,rfl,ha,hb,hx,hz,fun z=>q a H (aC.refl H) (by rw [z,List.append_nil];exact ha),fun _ p hp=>q p _ (aC.new hp) (cm.of az)⟩
theorem pz{x:V}{us:List Value}(r:aU [x] us):∃u,us=[u]∧bx x u:=by
  cases r with
  | cons p p'=>cases p';exact⟨_,rfl,p⟩
theorem y0{k:Nat}(hr:c9 k X.A):dW X (.builtin "sum") (fun xs H Q=>∃(l:Addr) (ns:List Int),xs=[.ref l]∧dS X.K H l (ns.map V.int)∧Q (.int ns.sum) H):=by
  intro pins s σ H xs us Q I r h
  obtain⟨l,ns,rfl,hs,q⟩:=h
  obtain⟨u,rfl,ru⟩:=pz r
  cases ru
  obtain⟨its,rv,p,hz⟩:=I.list hs
  have hi:IntsAre its ns:=oP rv
  obtain⟨ys,ey⟩:=hi.allInts.items
  have hl:=p.isList
  rw [ey] at hl
  refine PySem.sum_intListG hr.hd hl fun h' tk t' hk=>?_
  have e:preSum (numAt ys) ys.size=ns.sum:=by
    have e2:=nums_intItems (xs:=ys)
    rw [←ey] at e2
    have e3:=hi.numsOf
    rw [preSum_eq,List.take_of_length_le ↥1]
    rw [show its.toArray.toList=its from rfl,e3] at e2
    rw [e2]
  exact⟨.int ns.sum,H,I.kept hk,⟨t',by rw [e]⟩,q⟩
theorem tH{prog:Program}{w:World}{A:Around}{E:Value→Shared→Prop}{s:Shared}{t:Addr}{vs:List Value}{Q:List Value→Shared→Prop}(ht:IsTup s.heap t vs.toArray)
    (h:Q vs {s with heap:=(s.heap.push (seqObj "list" #[] 0)).update ↑s (Obj.mapSeq (· ++vs.toArray))})(hsz:vs.length≤sizeLine):wpAny (model prog w) A (collect (.ref t)) Q E s:=by
  obtain⟨o,ho,hc,n,hd⟩:=id ht;unfold collect;refine wpAny_bind (wpAny_runValue (codeAny_builtin entry_proto_collect' ?_))
  show wpAny _ _ (do again (.builtin "list.__iadd__" ⟨[←newList [],.ref t],[]⟩)) _ _ s
  refine wpAny_bind (wpAny_newList (wpAny_pure ⟨Code.quiet_builtin _ ↥2,?_⟩));refine codeAny_builtin entry_list_iadd' ?_
  show wpAny _ _ (Builtin.List.listExtendWith (.ref ↑s) (.ref t) (.ref ↑s)) _ _ {s with heap:=s.heap.push (seqObj "list" #[] 0)}
  unfold Builtin.List.listExtendWith;have ho':(s.heap.push (seqObj "list" #[] 0)).get? t=some o:=Heap.get?_push_of_some _ ho
  refine wpAny_bind (wpAny_typeOf (T:="tuple") ⟨o,ho',hc⟩ ?_)
  rw [if_pos (by rw [show(Value.type "tuple"==Value.type "tuple")=true from rfl,Bool.or_true])]
  refine wpAny_bind (listItems_at ho' hd ?_);refine wpAny_bind (listItems_at (xs:=#[]) (n:=0) (Heap.get?_push_size _ rfl) rfl ?_)
  rw [if_neg ↥1];refine wpAny_bind (listUpdate_at (xs:=#[]) (n:=0) (Heap.get?_push_size _ rfl) rfl ?_ (Nat.zero_le _) (by show(#[]++vs.toArray).size≤sizeLine+1;simp only [Array.size_append,List.size_toArray,List.length_nil];lia))
  refine wpAny_pure ?_
  show wpAny (model prog w) A (load ↑s >>= fun o=>match o.data with | .seq xs _=>pure xs.toList | _=>unsupported "internal:collect") Q E {s with heap:=(s.heap.push (seqObj "list" #[] 0)).update ↑s (Obj.mapSeq (· ++vs.toArray))}
  refine wpAny_bind (wpAny_load (get?_update_seq (Heap.get?_push_size _ rfl) _) ?_);show wpAny _ _ (pure ((#[]:Array Value)++vs.toArray).toList) Q E _;rw [show((#[]:Array Value)++vs.toArray).toList=vs by simp];exact wpAny_pure h
theorem vK{prog:Program}{w:World}{A:Around}{E:Value→Shared→Prop}{s:Shared}{t:Addr}{vs:List Value}{ns:List Int}{Q:Value→Shared→Prop}(ht:IsTup s.heap t vs.toArray)(hI:IntsAre vs ns)(h64:vs.length < 64)
    (h:∀(out:Array Value) (ns':List Int),IntsAre out.toList ns'→ns'.Perm ns→ns'.Pairwise (· ≤·)→Q (.ref (↑s+1)) {s with heap:=sortedAll s.heap vs out}):wpAny (model prog w) A (call (.builtin "sorted") [.ref t]) Q E s:=by
  refine Calls.call_function_entry kind_sorted plain_sorted entry_sorted (args_sorted1 _) ?_;unfold Builtin.«sorted»
  refine wpAny_bind (m:=checkCount "sorted" 1 1 _) (wpAny_pure ?_);refine wpAny_bind (tH ht ?_ (Nat.le_trans (Nat.le_of_lt h64) ⋯))
  have z:((s.heap.push (seqObj "list" #[] 0)).update ↑s (Obj.mapSeq (· ++vs.toArray))).objs.size=↑s+1:=by rw [Heap.size_update,size_push']
  have o:(((s.heap.push (seqObj "list" #[] 0)).update ↑s (Obj.mapSeq (· ++vs.toArray))).push (seqObj "list" vs.toArray 0)).get? (↑s+1)=some (seqObj "list" vs.toArray 0):=by rw [←z];exact Heap.get?_push_size _ rfl
  refine wpAny_bind (wpAny_newList ?_);show wpAny _ _ _ _ _ {s with heap:=((s.heap.push (seqObj "list" #[] 0)).update ↑s (Obj.mapSeq (· ++vs.toArray))).push (seqObj "list" vs.toArray 0)}
  rw [z];refine wpAny_bind (wpAny_holding (wpAny_call_entry slot_list_sort ⟨_,o,rfl⟩ entry_list_sort (list_sort_tree o hI h64 fun out ns' b1 b2 b3=>⟨_,rfl,?_⟩) (args_list_sort _)))
  exact wpAny_pure ⟨_,rfl,h out ns' b1 b2 b3⟩
theorem tD:dW X (.builtin "sorted") (fun xs H Q=>∃(a:Addr) (ns:List Int),xs=[.ref a]∧cm X.K H a (ns.map V.int)∧ns.length < 64∧∀(l:Addr) (ns':List Int) (H':Hp),aC H H'→H l=none→H' l=some (.lst (ns'.map V.int))→ns'.Perm ns→ns'.Pairwise (· ≤·)→Q (.ref l) H'):=by
  intro pins s σ H xs us Q I r h
  obtain⟨a,ns,rfl,hs,h64,q⟩:=h
  obtain⟨u,rfl,ru⟩:=pz r
  cases ru
  obtain⟨its,rv,p,hz⟩:=I.tuple hs
  have hl:=rv.length
  rw [List.length_map] at hl
  refine vK p (oP rv) ↥0 fun out ns' a1 a2 a3=>?_
  obtain⟨e,he⟩:=sortedAll_at s.heap its out
  have hf:H (↑s+1)=none:=I.hok.fresh (Nat.le_succ _)
  refine⟨.ref (↑s+1),a_ H (↑s+1) (.lst (ns'.map V.int)),I.laid (t':=s.toks) (fun _ _=>sortedAll_old) (Nat.le_succ _) ⟨?_,out.toList,e,mU a1,?_⟩,rfl,q _ ns' _ (aC.new hf) hf az a2 a3⟩
  · rw [List.length_map,a2.length_eq]
    exact Nat.le_trans (Nat.le_of_lt h64) ⋯
  · simpa [seqObj] using he
end
section
variable{X:Cx}
end
theorem yk{e:Expr}{es:List Expr}{env:Env}(h:PySem.W.isStarred e=false):starEach (e::es) env=(false,eval e env)::starEach es env:=by
  cases e<;>first | rfl | cases h
theorem BW{X:Cx}{e:Expr}{es:List Expr}{te:TE}{t:TA}(ha:PE X e te)(hr:PA X es t)(h:PySem.W.isStarred e=false:=by rfl):PA X (e::es) (nL te t):=eR ha hr (yk h)
def xn:List (Int × Int)→TA
  | []=>Cv
  | p::r=>nL (GO (nL (tC (.int p.1)) (nL (tC (.int p.2)) Cv))) (xn r)
@[irreducible] def HI(ps:List (Int × Int)):TA:=xn ps
structure mr where
  one:Int
  other:Int
  top:Int
  bot:Int
  worth:Int
structure aZ where
  things:Int
  ties:List mr
  pat:List Int
  asks:Int
structure mr.Ok (n:Int) (t:mr):Prop where
  o0:0≤t.one
  o1:t.one < t.other
  o2:t.other < n
  c0:0≤t.top
  c1:t.top≤t.bot
  b0:1≤t.bot
  b1:t.bot≤100
  w0:0≤t.worth
  w1:t.worth≤1000
  cop:Int.gcd t.top t.bot=1
structure aZ.Ok (w:aZ):Prop where
  t0:0≤w.things
  t1:w.things≤12
  ties:∀t∈w.ties,t.Ok w.things
  len:w.ties.length≤16
  pl:(w.pat.length:Int)=w.things
  pat:∀p∈w.pat,0≤p∧p≤20
  a0:0≤w.asks
  a1:w.asks≤40
def Fx(K:⇑0)(H:Hp)(v:V)(t:mr):Prop:=∃p q,v=.ref p∧cm K H p [.int t.one,.int t.other,.ref q,.int t.worth]∧cm K H q [.int t.top,.int t.bot]
inductive rH (K:⇑0) (H:Hp):List V→List mr→Prop
  | nil:rH K H [] []
  | cons {v vs t ts}:Fx K H v t→rH K H vs ts→rH K H (v::vs) (t::ts)
structure HR (K:⇑0) (H:Hp) (v:V) (w:aZ):Prop where
  ex:∃a b c ts,v=.ref a∧cm K H a [.int w.things,.ref b,.ref c,.int w.asks]∧cm K H b ts∧rH K H ts w.ties∧cm K H c (w.pat.map V.int)
section
variable{K:⇑0}{H H':Hp}
end
theorem vm{t b:Int}(hb:0 < b)(h0:0≤t)(h1:t≤b)(h2:b≤100):0≤(lowM t b).1∧(lowM t b).1≤(lowM t b).2∧1≤(lowM t b).2∧(lowM t b).2≤100:=by
  obtain⟨d,e1,e2,e3,e4,e5⟩:=iO (t:=t) (b:=b) ↥0
  generalize (lowM t b).1=x at*
  generalize (lowM t b).2=y at*
  have dp:0 < d:=by
    rcases Int.lt_or_gt_of_ne e2 with z | z
    · exfalso
      have:y*d < 0:=Int.mul_neg_of_pos_of_neg e5 z
      lia
    · exact z
  have x0:0≤x:=by
    rcases Int.lt_or_le x 0 with z | z
    · have:x*d < 0:=Int.mul_neg_of_neg_of_pos z dp
      lia
    · exact z
  have xy:x≤y:=by
    rcases Int.lt_or_le y x with z | z
    · have:y*d < x*d:=Int.mul_lt_mul_of_pos_right z dp
      lia
    · exact z
  have yb:y≤y*d:=by
    have:=Int.mul_le_mul_of_nonneg_left (show(1:Int)≤d by lia) (show 0≤y by lia)
    lia
  exact⟨x0,xy,by lia,by lia⟩
inductive pY {α β:Type} (R:α→β→Prop):List α→List β→Prop
  | nil:pY R [] []
  | cons {a b as bs}:R a b→pY R as bs→pY R (a::as) (b::bs)
namespace pY
variable{α β:Type}{R S:α→β→Prop}
theorem mono(h:∀a b,R a b→S a b):∀{as:List α} {bs:List β},pY R as bs→pY S as bs
  | _,_,.nil=>.nil
  | _,_,.cons x r=>.cons (h _ _ x) (mono h r)
theorem len:∀{as:List α} {bs:List β},pY R as bs→as.length=bs.length
  | _,_,.nil=>rfl
  | _,_,.cons _ r=>by simp [len r]
theorem get:∀{as:List α} {bs:List β} {i:Nat} {b:β},pY R as bs→bs[i]?=some b→∃a,as[i]?=some a∧R a b
  | _,_,_,_,.nil,e=>by simp at e
  | _,_,0,_,.cons x _,e=>by simp at e;subst e;exact⟨_,rfl,x⟩
  | _,_,i+1,b,.cons _ r,e=>by
    obtain⟨v,h1,h2⟩:=get (i:=i) (b:=b) r (by simpa using e)
    exact⟨v,by simpa using h1,h2⟩
end pY
section
variable{K:⇑0}{a l:Addr}{xs:List V}{g:TG}{tc:TT}{te:TE}{Q:VK}{σ:L2.St}{H:Hp}{α β:Type}{us:List α}{cp:List (Nat × Str)}{nT:Nat}
def GX(bc:Hp→V→β→Prop)(SI:L2.St→Prop)(us:List α)(f:α→Option β)(H:Hp)(l:Addr)(i:Nat)(σ:L2.St)(H':Hp):Prop:=SI σ∧aC H H'∧∃vs,H' l=some (.lst vs)∧vs.length≤i∧pY (bc H') vs ((us.take i).filterMap f)
end
theorem nK:∀{a b:List Int},a.Perm b→a.Pairwise (· ≤·)→b.Pairwise (· ≤·)→a=b
  | [],b,p,_,_=>by
    have:=p.length_eq
    exact(List.length_eq_zero_iff.mp this.symm).symm
  | x::a,b,p,h1,h2=>by
    cases b with
    | nil=>have:=p.length_eq;simp at this
    | cons y b=>
      have h1':=List.pairwise_cons.mp h1
      have h2':=List.pairwise_cons.mp h2
      have e:x=y:=by
        have m1:y∈x::a:=p.mem_iff.mpr ↥1
        have m2:x∈y::b:=p.mem_iff.mp ↥1
        rcases LJ m1 with z | z
        · exact z.symm
        · rcases LJ m2 with z2 | z2
          · exact z2
          · have:=h1'.1 y z
            have:=h2'.1 x z2
            lia
      subst e
      rw [nK ((List.perm_cons x).mp p) h1'.2 h2'.2]
def jY(ns:List Int):List Int:=ns.mergeSort
theorem AQ{ns ns':List Int}(p:ns'.Perm ns)(h:ns'.Pairwise (· ≤·)):ns'=jY ns:=by
  refine nK (p.trans (List.mergeSort_perm ns _).symm) h ?_
  have:=List.pairwise_mergeSort (le:=fun a b:Int=>decide (a≤b)) (fun a b c h1 h2=>by simp at*;lia) (fun a b=>by simp;lia) ns
  exact this.imp fun h=>by simpa using h
theorem k'(ns:List Int):(jY ns).Perm ns:=List.mergeSort_perm ns _
theorem rf{ns:List Int}{x:Int}:x∈jY ns↔ x∈ns:=(k' ns).mem_iff
theorem q_(ns:List Int):(jY ns).length=ns.length:=(k' ns).length_eq
section
variable{X:Cx}{K:⇑0}{pos:Pos}
theorem zr(h:X.K=K):A8 X (EN K):=h ▸ wL
theorem xH(h:X.K=K):dW X (.builtin "len") (fun xs H Q=>∃p ys,xs=[.ref p]∧(dS K H p ys∨cm K H p ys)∧Q (.int ys.length) H):=h ▸ lC
theorem B2{es:List Expr}{k:Nat}{t:A9}{n:Nat}(hK:X.K=K)(hc:X.calm=true)(h:yC X es t)(hn:(assignEach es X.env).length=n:=by rfl)(hst:(assignEach es X.env).findIdx? (·.1)=none:=by rfl):PG X (.Tuple es k pos) (FN K n t):=hK ▸ Eu hc h hn hst
theorem B5{tg l:Expr}{tl:TE}(h:X.K=K)(hl:PE X l tl):PI X tg l (FQ K tl):=h ▸ Ew hl
theorem ue{tg l:Expr}{tl:TE}(h:X.K=K)(hl:PE X l tl):PI X tg l (C8 K tl):=h ▸ B4 hl
end
instance:Inhabited mr:=⟨⟨0,1,1,1,0⟩⟩
def aZ.tie(W:aZ)(k:Int):mr:=W.ties.getD k.toNat default
def aZ.has(W:aZ)(k thing:Int):Bool:=(W.tie k).one==thing || (W.tie k).other==thing
def aZ.many(W:aZ)(asked:List Int)(thing:Int):Int:=((asked.filter fun k=>W.has k thing).length:Nat)
def aZ.bears(W:aZ)(asked taken:List Int)(thing:Int):Bool:= !taken.contains thing&&decide (W.many asked thing < W.pat.getD thing.toNat 0)
def aZ.may(W:aZ)(asked taken:List Int)(k:Int):Bool:= !(asked.contains k || decide (W.asks≤(asked.length:Int)))&&(W.bears asked taken (W.tie k).one&&W.bears asked taken (W.tie k).other)
def aZ.askd(asked:List Int)(k:Int):List Int:=jY (asked++[k])
def aZ.took(W:aZ)(taken:List Int)(k:Int)(truth:Bool):List Int:=if truth then jY (taken++[(W.tie k).one,(W.tie k).other]) else taken
def aZ.rng(W:aZ):List Int:=(List.range W.ties.length).map Int.ofNat
def aZ.can(W:aZ)(asked taken:List Int):List Int:=W.rng.filter fun k=>W.may asked taken k
def lh(W:aZ)(k:Int):Prop:=0≤k∧k < (W.ties.length:Int)
theorem lh.get{W:aZ}{k:Int}(h:lh W k):W.ties[k.toNat]?=some (W.tie k):=by
  have hk:k.toNat < W.ties.length:=by have:=h.1;have:=h.2;lia
  unfold aZ.tie
  rw [List.getD_eq_getElem?_getD,List.getElem?_eq_getElem hk];rfl
theorem lh.ok{W:aZ}{k:Int}(h:lh W k)(o:W.Ok):(W.tie k).Ok W.things:=o.ties _ (LK h.get)
theorem Bz{W:aZ}{k:Int}:k∈W.rng↔ lh W k:=by
  unfold aZ.rng lh
  rw [List.mem_map]
  constructor
  · rintro⟨n,hn,rfl⟩
    have:=List.mem_range.mp hn
    exact⟨Int.natCast_nonneg n,by simp;lia⟩
  · rintro⟨h0,h1⟩
    exact⟨k.toNat,List.mem_range.mpr ↥0,by simp;lia⟩
def DE(K:⇑0)(H:Hp)(v:V)(asked taken:List Int):Prop:=∃a b c,v=.ref a∧cm K H a [.ref b,.ref c]∧cm K H b (asked.map V.int)∧cm K H c (taken.map V.int)
theorem DE.ts{K:⇑0}{H H':Hp}(s:mW H H'){v:V}{asked taken:List Int}(h:DE K H v asked taken):DE K H' v asked taken:=by
  obtain⟨a,b,c,e,h1,h2,h3⟩:=h
  exact⟨a,b,c,e,s.tup h1,s.tup h2,s.tup h3⟩
section
variable{K:⇑0}{σ:L2.St}{H:Hp}{Q:VK}{i j:Nat}{vW:V}{W:aZ}{k:Int}
end
def Ds(k:Int):Prop:= -1000000≤k∧k≤1000000
def Dk(n dep:Nat)(d:PyData):Prop:=d.showable=true∧o_ d=true∧L2.cnt d≤n∧d.depth≤dep
theorem Dk.mono{n m dep e:Nat}{d:PyData}(h:Dk n dep d)(h1:n≤m)(h2:dep≤e):Dk m e d:=⟨h.1,h.2.1,Nat.le_trans h.2.2.1 h1,Nat.le_trans h.2.2.2 h2⟩
theorem Dk.int{k:Int}(h:Ds k):Dk 1 2 (.int k):=by
  refine⟨?_,rfl,Nat.le_refl _,by simp [PyData.depth]⟩
  show decide (k.natAbs.log2 < 1920)=true
  rw [decide_eq_true_eq]
  exact Nat.lt_trans ((show Bt 64 k by have:=h.1;have:=h.2;unfold Bt;lia).log ⋯) ⋯
theorem Dk.bool(b:Bool):Dk 1 2 (.bool b):=⟨rfl,rfl,Nat.le_refl _,by simp [PyData.depth]⟩
theorem Dk.none:Dk 1 2 .none:=⟨rfl,rfl,Nat.le_refl _,by simp [PyData.depth]⟩
theorem Dk.all{n dep:Nat}:∀{ds:List PyData},(∀d∈ds,Dk n dep d)→PyData.showableAll ds=true∧iU ds=true∧kU ds≤ds.length*n∧PyData.depthAll ds≤dep
  | [],_=>⟨rfl,rfl,by simp [kU],by simp [PyData.depthAll]⟩
  | d::r,h=>by
    obtain⟨a1,a2,a3,a4⟩:=h d ↥1
    obtain⟨b1,b2,b3,b4⟩:=Dk.all (ds:=r) fun x hx=>h x (by simp [hx])
    refine⟨?_,?_,?_,?_⟩
    · simp only [PyData.showableAll,a1,b1,Bool.and_self]
    · simp only [iU,a2,b2,Bool.and_self]
    · simp only [kU,List.length_cons,Nat.succ_mul]
      lia
    · simp only [PyData.depthAll];lia
theorem Dk.tup{n dep m:Nat}{ds:List PyData}(h:∀d∈ds,Dk n dep d)(hl:ds.length≤m):Dk (1+m*n) (dep+2) (.tuple ds):=by
  obtain⟨b1,b2,b3,b4⟩:=Dk.all h
  refine⟨b1,b2,?_,?_⟩
  · simp only [L2.cnt]
    have:=Nat.mul_le_mul_right n hl
    lia
  · simp only [PyData.depth];lia
theorem Dk.ok{n dep:Nat}{d:PyData}(h:Dk n dep d)(h1:n≤8000)(h2:dep≤60):d.showable=true∧d.depth≤60∧d.shown.length≤sizeLine:=by
  have:=qY h.2.1 h.1
  have sl:sizeLine=16777216:=sizeLine_eq
  have:=h.2.2.1
  exact⟨h.1,Nat.le_trans h.2.2.2 h2,by lia⟩
theorem Dk.ints{ns:List Int}{m:Nat}(hl:ns.length≤m)(h:∀r∈ns,Ds r):Dk (1+m) 4 (.tuple (ns.map .int)):=by
  have:=Dk.tup (n:=1) (dep:=2) (m:=m) (ds:=ns.map PyData.int) (fun d hd=>by
    obtain⟨x,hx,rfl⟩:=LI hd
    exact Dk.int (h x hx)) (by rw [List.length_map];exact hl)
  simpa using this
section
variable{K:⇑0}{H:Hp}
def be(t:mr):PyData:=.tuple [.int t.one,.int t.other,.tuple [.int t.top,.int t.bot],.int t.worth]
def aI(W:aZ):PyData:=.tuple [.int W.things,.tuple (W.ties.map be),.tuple (W.pat.map .int),.int W.asks]
def m6(asked taken:List Int):PyData:=.tuple [.tuple (asked.map .int),.tuple (taken.map .int)]
end
section
variable{X:Cx}
end
section
variable{prog:Program}{w:World}{A:Around}{E:Value→Shared→Prop}{s:Shared}
theorem AY{it t:Addr}{i:Nat}{ys}{x:Value}{Q:Value→Shared→Prop}(hi:s.heap.IsTupleIter it t i)(ht:s.heap.IsTuple t ys)(hx:ys[i]?=some x)
    (q:∀g,g.IsTupleIter it t (i+1)→Heap.SameBut it s.heap g→Q x {s with heap:=g}):wpAny (model prog w) A (Builtin.SmallTypes.nextOf (.ref it)) Q E s:=by
  obtain⟨o,ho,hc,hd⟩:=id hi;obtain⟨p,hp,_,n,hpd⟩:=ht;unfold Builtin.SmallTypes.nextOf
  refine wpAny_bind (wpAny_callSpecial?_slot (name:=Str.ofString "__next__") hi.typeIs F.slot_tuple_iterator_next (wpAny_call_entry F.slot_tuple_iterator_next hi.typeIs F.entry_tuple_iterator_next ?_ (F.args_tuple_iterator_next_1 _)))
  show wpAny _ _ (field (.ref it) 0 >>= _) _ _ s;refine wpAny_bind (wpAny_field ho hd (x:=.ref t) rfl ?_)
  show wpAny _ _ (if (Value.ref t==Value.none)=true then _ else _) _ _ s;rw [if_neg (show ¬((Value.ref t==Value.none)=true) from Bool.false_ne_true)]
  show wpAny _ _ (field (.ref it) 1 >>= _) _ _ s;refine wpAny_bind (wpAny_field ho hd (x:=.int i 0) rfl ?_)
  show wpAny _ _ (seqItems? (.ref t) >>= _) _ _ s;refine wpAny_bind (wpAny_seqItems hp hpd ?_)
  simp only [Int.toNat_natCast,hx];refine wpAny_bind (wpAny_setField ho hd ↥1 (wpAny_pure ⟨x,rfl,wpAny_pure (q _ ?_ (Heap.SameBut.update ..))⟩))
  refine⟨_,Heap.get?_update_self _ ho (Obj.isFreed_of_fields (Obj.data_mapFields hd _)),(Obj.cls_mapFields ..).trans hc,?_⟩;rw [Obj.data_mapFields hd];simp [rawInt]
theorem AX{it t:Addr}{i:Nat}{ys}{Q:Value→Shared→Prop}(hh:A.handled=none)(hi:s.heap.IsTupleIter it t i)(ht:s.heap.IsTuple t ys)(hx:ys[i]?=none)
    (q:∀g e,Heap.ExtBut it s.heap g→(∃o,g.get? e=some o∧o.cls=.type "StopIteration")→E (.ref e) {s with heap:=g}):wpAny (model prog w) A (Builtin.SmallTypes.nextOf (.ref it)) Q E s:=by
  obtain⟨o,ho,hc,hd⟩:=id hi;obtain⟨p,hp,_,n,hpd⟩:=ht;unfold Builtin.SmallTypes.nextOf
  refine wpAny_bind (wpAny_callSpecial?_slot (name:=Str.ofString "__next__") hi.typeIs F.slot_tuple_iterator_next (wpAny_call_entry F.slot_tuple_iterator_next hi.typeIs F.entry_tuple_iterator_next ?_ (F.args_tuple_iterator_next_1 _)))
  show wpAny _ _ (field (.ref it) 0 >>= _) _ _ s;refine wpAny_bind (wpAny_field ho hd (x:=.ref t) rfl ?_)
  show wpAny _ _ (if (Value.ref t==Value.none)=true then _ else _) _ _ s;rw [if_neg (show ¬((Value.ref t==Value.none)=true) from Bool.false_ne_true)]
  show wpAny _ _ (field (.ref it) 1 >>= _) _ _ s;refine wpAny_bind (wpAny_field ho hd (x:=.int i 0) rfl ?_)
  show wpAny _ _ (seqItems? (.ref t) >>= _) _ _ s;refine wpAny_bind (wpAny_seqItems hp hpd ?_)
  simp only [Int.toNat_natCast,hx];refine wpAny_bind (wpAny_rule (wpAny_bind (wpAny_setField ho hd ↥1 ?_)))
  show wpAny _ _ (newExc (.type "StopIteration") [] >>= _) _ _ _;refine wpAny_bind ?_;simp only [newExc,newTuple]
  refine wpAny_bind (wpAny_newObj_type ?_ (by size_fits));refine wpAny_bind (m:=firstArgMember _ _) (wpAny_of_eq (a:=Value.none) (by first | rfl | (simp only [firstArgMember];rfl)) ?_)
  refine wpAny_newObj_type ?_ (by size_fits);simp only [raiseNew];refine wpAny_bind (wpAny_handled ?_);first | rw [show A.in1.handled=none from hh] | rw [hh]
  refine wpAny_bind (wpAny_pure (wpAny_throw ?_));exact q _ _ (((Heap.SameBut.update ..).extBut.push _).push _) ⟨_,Heap.get?_push_size _ rfl,rfl⟩
end
structure Sc (prog:Program) (w:World) (it l:Addr) (St:Nat→Heap→Prop) (Sq:Heap→Array Value→Prop):Prop where
  stay:∀{k h h'},St k h→(∀o,h.get? it=some o→h'.get? it=some o)→St k h'
  live:∀{k h},St k h→∃o,h.get? it=some o∧∀v,o.data≠.cell v
  row:∀{h h' xs},Sq h xs→(∀o,h.get? l=some o→h'.get? l=some o)→Sq h' xs
  next:∀{A:Around} {s:Shared} {E:Value→Shared→Prop} {Q:Value→Shared→Prop} {k:Nat} {xs:Array Value} {x:Value},St k s.heap→Sq s.heap xs→xs[k]?=some x→(∀g,St (k+1) g→Heap.SameBut it s.heap g→Q x {s with heap:=g})→wpAny (model prog w) A (Builtin.SmallTypes.nextOf (.ref it)) Q E s
  last:∀{A:Around} {s:Shared} {E:Value→Shared→Prop} {Q:Value→Shared→Prop} {k:Nat} {xs:Array Value},A.handled=none→St k s.heap→Sq s.heap xs→xs[k]?=none→(∀g e,Heap.ExtBut it s.heap g→(∃o,g.get? e=some o∧o.cls=.type "StopIteration")→E (.ref e) {s with heap:=g})→wpAny (model prog w) A (Builtin.SmallTypes.nextOf (.ref it)) Q E s
theorem iG{prog:Program}{w:World}(it l:Addr):Sc prog w it l (fun k h=>h.IsTupleIter it l k) (fun h xs=>h.IsTuple l xs) where
  stay:=fun st k=>st.at fun o e=>k o e
  live:=fun st=>by
    obtain⟨o,e,c,d⟩:=st
    exact⟨o,e,fun v z=>by rw [d] at z;cases z⟩
  row:=fun q k=>by
    obtain⟨o,e,r⟩:=q
    exact⟨o,k o e,r⟩
  next:=fun st sq hx q=>AY st sq hx q
  last:=fun hh st sq hx q=>AX hh st sq hx q
theorem eU{prog:Program}{w:World}(it l:Addr):Sc prog w it l (fun k h=>h.IsListIter it l k) (fun h xs=>h.IsList l xs) where
  stay:=fun st k=>st.at fun o e=>k o e
  live:=fun st=>by
    obtain⟨o,e,c,d⟩:=st
    exact⟨o,e,fun v z=>by rw [d] at z;cases z⟩
  row:=fun q k=>by
    obtain⟨o,e,r⟩:=q
    exact⟨o,k o e,r⟩
  next:=fun st sq hx q=>wpAny_nextOf_list_item st sq hx q
  last:=fun hh st sq hx q=>wpAny_nextOf_list_end hh st sq hx q
structure jm (z TI TO i1 i2 l1 l2:Addr):Prop where
  a1:TO≠z
  a2:i1≠z
  a3:i2≠z
  a4:TO≠i1
  a5:TO≠i2
  a6:i1≠i2
  b1:l1≠z
  b2:l1≠TO
  b3:l1≠i1
  b4:l1≠i2
  c1:l2≠z
  c2:l2≠TO
  c3:l2≠i1
  c4:l2≠i2
section
variable{prog:Program}{w:World}{A:Around}{E:Value→Shared→Prop}{s:Shared}{z TI TO i1 i2 l1 l2:Addr}{k:Nat}{xs ys:Array Value}{a b:Value}{S1 S2:Nat→Heap→Prop}{R1 R2:Heap→Array Value→Prop}
theorem Fo{x y:Value}{Q:Value→Shared→Prop}(P1:Sc prog w i1 l1 S1 R1)(P2:Sc prog w i2 l2 S2 R2)(D:jm z TI TO i1 i2 l1 l2)(hz:IsZip s.heap z TI TO .none)(hI:IsPair s.heap TI (.ref i1) (.ref i2))(hO:IsPair s.heap TO a b)(u1:S1 k s.heap)(u2:S2 k s.heap)(r1:R1 s.heap xs)(r2:R2 s.heap ys)(hx:xs[k]?=some x)(hy:ys[k]?=some y)
    (q:∀g,IsZip g z TI TO (rawInt ↑s)→IsPair g TO x y→S1 (k+1) g→S2 (k+1) g→IsPair g ↑s x y→g.objs.size=↑s+1→(∀c o,c≠z→c≠TO→c≠i1→c≠i2→s.heap.get? c=some o→g.get? c=some o)→Q (.ref ↑s) {s with heap:=g}):
    wpAny (model prog w) A (Builtin.«zip.__next__» ⟨[.ref z],[]⟩) (fun f s'=>∃v,f=.done (.ret v)∧Q v s') E s:=by
  show wpAny _ _ (field (.ref z) 2 >>= _) _ _ _;refine wpAny_bind (wpAny_field hz rfl (x:=.bool false) rfl ?_)
  show wpAny _ _ (field (.ref z) 3 >>= _) _ _ _;refine wpAny_bind (wpAny_field hz rfl (x:=.ref TI) rfl ?_);refine wpAny_bind (wpAny_seqItems hI rfl ?_)
  show wpAny _ _ (Builtin.SmallTypes.ownedTupleIsFree (.ref z) >>= _) _ _ _;refine wpAny_bind ?_;unfold Builtin.SmallTypes.ownedTupleIsFree
  refine wpAny_bind (wpAny_field hz rfl (x:=.none) rfl (wpAny_pure ?_));simp only [if_true];refine wpAny_bind (wpAny_rule ?_)
  refine wpAny_bind (wpAny_field hz rfl (x:=.ref TO) rfl ?_);refine wpAny_bind (wpAny_setField_rec hz ↥1 fun g1 z1 e1=>?_)
  replace z1:IsZip g1 z TI TO .ellipsis:=z1;refine wpAny_bind ?_;simp only [List.zipIdx_cons,List.zipIdx_nil,List.forIn_cons,List.forIn_nil]
  refine wpAny_bind (wpAny_bind (wpAny_onRaise ?_));show wpAny _ _ (Builtin.SmallTypes.nextOf (.ref i1) >>= _) _ _ _
  refine wpAny_bind (P1.next (P1.stay u1 fun o e=>e1.extBut _ _ D.a2 e) (P1.row r1 fun o e=>e1.extBut _ _ D.b1 e) hx fun g2 v1 e2=>wpAny_pure ?_)
  have O2:IsPair g2 TO a b:=e2.extBut _ _ D.a4 (e1.extBut _ _ D.a1 hO)
  refine wpAny_bind (wpAny_seqItems O2 rfl ?_);refine wpAny_bind (wpAny_updateSeq_pair O2 fun g3 O3 e3=>?_);replace O3:IsPair g3 TO x b:=O3;refine wpAny_bind (wpAny_letGo (wpAny_pure ?_))
  refine wpAny_bind (wpAny_bind (wpAny_onRaise ?_));show wpAny _ _ (Builtin.SmallTypes.nextOf (.ref i2) >>= _) _ _ _
  have up3:∀c o,c≠z→c≠i1→c≠TO→s.heap.get? c=some o→g3.get? c=some o:=fun c o n1 n2 n3 e=>e3.extBut _ _ n3 (e2.extBut _ _ n2 (e1.extBut _ _ n1 e))
  refine wpAny_bind (P2.next (P2.stay u2 fun o e=>up3 _ _ D.a3 D.a6.symm D.a5.symm e) (P2.row r2 fun o e=>up3 _ _ D.c1 D.c3 D.c2 e) hy fun g4 v2 e4=>wpAny_pure ?_)
  have O4:IsPair g4 TO x b:=e4.extBut _ _ D.a5 O3
  refine wpAny_bind (wpAny_seqItems O4 rfl ?_);refine wpAny_bind (wpAny_updateSeq_pair O4 fun g5 O5 e5=>?_);replace O5:IsPair g5 TO x y:=O5;refine wpAny_bind (wpAny_letGo (wpAny_pure (wpAny_pure ?_)))
  refine wpAny_bind (wpAny_seqItems O5 rfl ?_);refine wpAny_bind (wpAny_newTuple ?_)
  have sz:g5.objs.size=↑s:=by rw [e5.1,e4.1,e3.1,e2.1,e1.1]
  have z5:IsZip g5 z TI TO .ellipsis:=e5.extBut _ _ D.a1.symm (e4.extBut _ _ D.a3.symm (e3.extBut _ _ D.a1.symm (e2.extBut _ _ D.a2.symm z1)))
  have k5:∀c o,c≠z→c≠TO→c≠i1→c≠i2→s.heap.get? c=some o→g5.get? c=some o:=fun c o n1 n2 n3 n4 e=>e5.extBut _ _ n2 (e4.extBut _ _ n4 (up3 c o n1 n3 n2 e))
  have w1:S1 (k+1) g5:=P1.stay v1 fun o e=>e5.extBut _ _ D.a4.symm (e4.extBut _ _ D.a6 (e3.extBut _ _ D.a4.symm e))
  have w2:S2 (k+1) g5:=P2.stay v2 fun o e=>e5.extBut _ _ D.a5.symm e
  have lz:z < g5.objs.size:=Heap.lt_size z5
  show wpAny _ _ (Builtin.SmallTypes.ownedTupleHandOut (.ref z) (.ref g5.objs.size) >>= _) _ _ _;refine wpAny_bind ?_;unfold Builtin.SmallTypes.ownedTupleHandOut
  have z6:IsZip (g5.push {cls:=.type "tuple",data:=.seq #[x,y]}) z TI TO .ellipsis:=Heap.get?_push_of_some _ z5
  refine wpAny_bind (wpAny_setField_rec z6 ↥1 fun g7 z7 e7=>?_);replace z7:IsZip g7 z TI TO (rawInt g5.objs.size):=z7
  refine wpAny_setField_rec z7 ↥1 fun g8 z8 e8=>?_;replace z8:IsZip g8 z TI TO (rawInt g5.objs.size):=z8
  have up:∀c o,c≠z→g5.get? c=some o→g8.get? c=some o:=fun c o n e=>e8.extBut _ _ n (e7.extBut _ _ n (Heap.get?_push_of_some _ e))
  have T8:IsPair g8 g5.objs.size x y:=e8.extBut _ _ (Nat.ne_of_gt lz) (e7.extBut _ _ (Nat.ne_of_gt lz) (Heap.get?_push_size _ rfl))
  have n8:g8.objs.size=g5.objs.size+1:=by rw [e8.1,e7.1,Heap.size_push]
  rw [sz] at z8 T8 n8;refine wpAny_pure ⟨_,rfl,?_⟩;show Q (.ref g5.objs.size) _;rw [sz]
  exact q g8 z8 (up _ _ D.a1 O5) (P1.stay w1 fun o e=>up _ o D.a2 e) (P2.stay w2 fun o e=>up _ o D.a3 e) T8 n8 fun c o n1 n2 n3 n4 e=>up c o n1 (k5 c o n1 n2 n3 n4 e)
theorem CL{Q:Fin→Shared→Prop}(hh:A.handled=none)(P1:Sc prog w i1 l1 S1 R1)(P2:Sc prog w i2 l2 S2 R2)(D:jm z TI TO i1 i2 l1 l2)(hz:IsZip s.heap z TI TO .none)(hI:IsPair s.heap TI (.ref i1) (.ref i2))(hO:IsPair s.heap TO a b)(u1:S1 k s.heap)(u2:S2 k s.heap)(r1:R1 s.heap xs)(r2:R2 s.heap ys)(hn:xs[k]?=none∨ys[k]?=none)
    (q:∀g e,(∀c o,c≠z→c≠TO→c≠i1→c≠i2→s.heap.get? c=some o→g.get? c=some o)→(∃o,g.get? e=some o∧o.cls=.type "StopIteration")→E (.ref e) {s with heap:=g}):
    wpAny (model prog w) A (Builtin.«zip.__next__» ⟨[.ref z],[]⟩) Q E s:=by
  show wpAny _ _ (field (.ref z) 2 >>= _) _ _ _;refine wpAny_bind (wpAny_field hz rfl (x:=.bool false) rfl ?_)
  show wpAny _ _ (field (.ref z) 3 >>= _) _ _ _;refine wpAny_bind (wpAny_field hz rfl (x:=.ref TI) rfl ?_);refine wpAny_bind (wpAny_seqItems hI rfl ?_)
  show wpAny _ _ (Builtin.SmallTypes.ownedTupleIsFree (.ref z) >>= _) _ _ _;refine wpAny_bind ?_;unfold Builtin.SmallTypes.ownedTupleIsFree
  refine wpAny_bind (wpAny_field hz rfl (x:=.none) rfl (wpAny_pure ?_));simp only [if_true];refine wpAny_bind (wpAny_rule ?_)
  refine wpAny_bind (wpAny_field hz rfl (x:=.ref TO) rfl ?_);refine wpAny_bind (wpAny_setField_rec hz ↥1 fun g1 z1 e1=>?_)
  replace z1:IsZip g1 z TI TO .ellipsis:=z1;refine wpAny_bind ?_;simp only [List.zipIdx_cons,List.zipIdx_nil,List.forIn_cons,List.forIn_nil]
  refine wpAny_bind (wpAny_bind (wpAny_onRaise ?_));show wpAny _ _ (Builtin.SmallTypes.nextOf (.ref i1) >>= _) _ _ _
  cases hx:xs[k]? with
  | none=>
    refine wpAny_bind (P1.last hh (P1.stay u1 fun o e=>e1.extBut _ _ D.a2 e) (P1.row r1 fun o e=>e1.extBut _ _ D.b1 e) hx fun g2 e e2 he=>?_)
    obtain⟨oe,h1,h2⟩:=he;have z2:IsZip g2 z TI TO .ellipsis:=e2 _ _ D.a2.symm z1
    have nz:e≠z:=fun x=>by subst x;rw [z2] at h1;cases h1;simp at h2
    refine wpAny_setField_rec z2 ↥1 fun g3 _ e3=>q g3 e (fun c o n1 _ n3 _ x=>e3.extBut _ _ n1 (e2 _ _ n3 (e1.extBut _ _ n1 x))) ⟨oe,e3.extBut _ _ nz h1,h2⟩
  | some x=>
    have hy:ys[k]?=none:=by
      rcases hn with h | h
      · rw [hx] at h;cases h
      · exact h
    refine wpAny_bind (P1.next (P1.stay u1 fun o e=>e1.extBut _ _ D.a2 e) (P1.row r1 fun o e=>e1.extBut _ _ D.b1 e) hx fun g2 v1 e2=>wpAny_pure ?_)
    have O2:IsPair g2 TO a b:=e2.extBut _ _ D.a4 (e1.extBut _ _ D.a1 hO)
    refine wpAny_bind (wpAny_seqItems O2 rfl ?_);refine wpAny_bind (wpAny_updateSeq_pair O2 fun g3 O3 e3=>?_);refine wpAny_bind (wpAny_letGo (wpAny_pure ?_))
    refine wpAny_bind (wpAny_bind (wpAny_onRaise ?_));show wpAny _ _ (Builtin.SmallTypes.nextOf (.ref i2) >>= _) _ _ _
    have up3:∀c o,c≠z→c≠i1→c≠TO→s.heap.get? c=some o→g3.get? c=some o:=fun c o n1 n2 n3 e=>e3.extBut _ _ n3 (e2.extBut _ _ n2 (e1.extBut _ _ n1 e))
    refine wpAny_bind (P2.last hh (P2.stay u2 fun o e=>up3 _ _ D.a3 D.a6.symm D.a5.symm e) (P2.row r2 fun o e=>up3 _ _ D.c1 D.c3 D.c2 e) hy fun g4 e e4 he=>?_)
    obtain⟨oe,h1,h2⟩:=he;have z4:IsZip g4 z TI TO .ellipsis:=e4 _ _ D.a3.symm (e3.extBut _ _ D.a1.symm (e2.extBut _ _ D.a2.symm z1))
    have nz:e≠z:=fun x=>by subst x;rw [z4] at h1;cases h1;simp at h2
    refine wpAny_setField_rec z4 ↥1 fun g5 _ e5=>q g5 e (fun c o n1 n2 n3 n4 x=>e5.extBut _ _ n1 (e4 _ _ n4 (up3 c o n1 n3 n2 x))) ⟨oe,e5.extBut _ _ nz h1,h2⟩
theorem ml{x y:Value}{Q:Option Value→Shared→Prop}(P1:Sc prog w i1 l1 S1 R1)(P2:Sc prog w i2 l2 S2 R2)(D:jm z TI TO i1 i2 l1 l2)(hz:IsZip s.heap z TI TO .none)(hI:IsPair s.heap TI (.ref i1) (.ref i2))(hO:IsPair s.heap TO a b)(u1:S1 k s.heap)(u2:S2 k s.heap)(r1:R1 s.heap xs)(r2:R2 s.heap ys)(hx:xs[k]?=some x)(hy:ys[k]?=some y)
    (q:∀g,IsZip g z TI TO (rawInt ↑s)→IsPair g TO x y→S1 (k+1) g→S2 (k+1) g→IsPair g ↑s x y→g.objs.size=↑s+1→(∀c o,c≠z→c≠TO→c≠i1→c≠i2→s.heap.get? c=some o→g.get? c=some o)→Q (some (.ref ↑s)) {s with heap:=g}):
    wpAny (model prog w) A (pyNext (.ref z)) Q E s:=by
  have hT:s.TypeIs (.ref z) "zip":=⟨_,hz,rfl⟩;unfold pyNext
  refine wpAny_bind (wpAny_attempt (wpAny_callSpecial?_slot (name:=Str.ofString "__next__") hT F.slot_zip_next (wpAny_call_entry F.slot_zip_next hT F.entry_zip_next ?_ (F.args_zip_next_1 _))))
  exact Fo P1 P2 D hz hI hO u1 u2 r1 r2 hx hy fun g b1 b2 b3 b4 b5 b6 b7=>wpAny_pure (q g b1 b2 b3 b4 b5 b6 b7)
theorem mn{Q:Option Value→Shared→Prop}(hh:A.handled=none)(P1:Sc prog w i1 l1 S1 R1)(P2:Sc prog w i2 l2 S2 R2)(D:jm z TI TO i1 i2 l1 l2)(hz:IsZip s.heap z TI TO .none)(hI:IsPair s.heap TI (.ref i1) (.ref i2))(hO:IsPair s.heap TO a b)(u1:S1 k s.heap)(u2:S2 k s.heap)(r1:R1 s.heap xs)(r2:R2 s.heap ys)(hn:xs[k]?=none∨ys[k]?=none)
    (q:∀g,(∀c o,c≠z→c≠TO→c≠i1→c≠i2→s.heap.get? c=some o→g.get? c=some o)→Q none {s with heap:=g}):wpAny (model prog w) A (pyNext (.ref z)) Q E s:=by
  have hT:s.TypeIs (.ref z) "zip":=⟨_,hz,rfl⟩;unfold pyNext
  refine wpAny_bind (wpAny_attempt (wpAny_callSpecial?_slot (name:=Str.ofString "__next__") hT F.slot_zip_next (wpAny_call_entry F.slot_zip_next hT F.entry_zip_next (CL hh P1 P2 D hz hI hO u1 u2 r1 r2 hn fun g e hk he=>?_) (F.args_zip_next_1 _))))
  obtain⟨o,ho,hc⟩:=he;refine wpAny_bind (wpAny_isInstance (T:="StopIteration") (b:=true) ⟨o,ho,hc⟩ isSubtype_stop ?_);exact wpAny_pure (q _ hk)
end
section
variable{X:Cx}{pins:List (Addr × Obj)}{σ:L2.St}{H:Hp}{s:Shared}{h':Heap}
theorem aF.turnedL{t':Nat}{fp:List Addr}(I:aF X pins σ H s)(hf:∀b∈fp,f_ X pins H b)(k:∀b o,b∉fp→s.heap.get? b=some o→h'.get? b=some o):aF X pins σ H {s with heap:=h',toks:=t'}:=by
  have hL:X.env.locals∉fp:=fun z=>(hf _ z).2.1 rfl
  have nit:∀b u,H b=some u→b∉fp:=fun b u e z=>by have:=(hf b z).1;rw [this] at e;cases e
  refine I.step (g':=s.gens) (d':=s.drawn) (ch:=fp) (fun b hb=>?_) (fun b o _ _ hc e _=>k b o hc e) (fun b o _ _ hc e _=>⟨o.slots,k b o hc e⟩) (fun _ _ _ _ n=>n) (fun b o hc e=>⟨o,k b o hc e⟩) (fun _ _ e=>e) (fun _ _ _ e=>e) (fun b ps e=>⟨#[],by rw [e];simp⟩) (fun m hm=>?_) (fun b u e=>?_) I.bare
  · obtain⟨f0,f1,f2,f3,f4,f5⟩:=hf b hb
    exact⟨f3,f1,f4,f5⟩
  · obtain⟨o,es,ep,ho,r⟩:=hm
    exact⟨o,es,ep,k _ o hL ho,r⟩
  · refine(I.hok b u e).stay (fun c v hc q=>k c v ?_ q) (fun _ q=>q) fun _ _ q=>q
    rcases hc with z | z
    · rw [z];exact nit b u e
    · exact nit c _ z
theorem aJ(I:aF X pins σ H s){b l:Addr}{xs:List V}(f:f_ X pins H b)(q:cm X.K H l xs):l≠b:=by
  intro z
  subst z
  rcases q with (q | ⟨o,q⟩) | ⟨o,its,n,hk,_⟩
  · rw [f.1] at q;cases q
  · rw [f.1] at q;cases q
  · have hb:X.base.get? l=some o:=I.ok.mod.kin l o hk
    rcases f.2.2.2.1 with z | z
    · exact I.ok.noex l o hb z
    · exact absurd (Nat.lt_of_lt_of_le (Heap.lt_size (I.ok.bs l o hb).1) z) (Nat.lt_irrefl _)
end
def HM(K:⇑0)(l1 l2:Addr):It:=
  ⟨fun i H=>∃xs ys x y,cm K H l1 xs∧cm K H l2 ys∧xs[i]?=some x∧ys[i]?=some y,
   fun i H v H'=>∃p x y,v=.ref p∧H p=none∧H'=a_ H p (.tup [x,y])∧∀xs ys,cm K H l1 xs→cm K H l2 ys→xs[i]?=some x∧ys[i]?=some y,
   fun i H=>∃xs ys,cm K H l1 xs∧cm K H l2 ys∧(xs.length≤i∨ys.length≤i)⟩
def Dx(z TI TO i1 i2 l1 l2:Addr)(i:Nat)(h:Heap):Prop:=IsZip h z TI TO .none∧IsPair h TI (.ref i1) (.ref i2)∧(∃a b,IsPair h TO a b)∧h.IsTupleIter i1 l1 i∧h.IsTupleIter i2 l2 i
theorem AZ{P:Program}{w:World}{K:⇑0}{es:List Expr}{k0:Nat}{pos:Pos}{z TI TO i1 i2:Addr}(l1 l2:Addr)(n1:TO≠z)(n2:i1≠z)(n3:i2≠z)(n4:TO≠i1)(n5:TO≠i2)(n6:i1≠i2)(n7:TI≠z)(n8:TI≠TO)(n9:TI≠i1)(n10:TI≠i2):
    p5 P w K (.Tuple es k0 pos) (HM K l1 l2) [z,TI,TO,i1,i2] z (Dx z TI TO i1 i2 l1 l2) where
  mem:=by simp
  obj:=fun i h st b hb=>by
    obtain⟨hz,hI,⟨a,c,hO⟩,u1,u2⟩:=st
    simp only [List.mem_cons,List.not_mem_nil,or_false] at hb
    rcases hb with rfl | rfl | rfl | rfl | rfl
    · exact⟨_,hz,fun v z=>by cases z⟩
    · exact⟨_,hI,fun v z=>by cases z⟩
    · exact⟨_,hO,fun v z=>by cases z⟩
    · obtain⟨o,e,c,d⟩:=u1
      exact⟨o,e,fun v z=>by rw [d] at z;cases z⟩
    · obtain⟨o,e,c,d⟩:=u2
      exact⟨o,e,fun v z=>by rw [d] at z;cases z⟩
  keep:=fun i h h' st k=>by
    obtain⟨hz,hI,⟨a,c,hO⟩,u1,u2⟩:=st
    exact⟨k _ ↥1 _ hz,k _ ↥1 _ hI,⟨a,c,k _ ↥1 _ hO⟩,u1.at fun o e=>k _ ↥1 o e,u2.at fun o e=>k _ ↥1 o e⟩
  item:=by
    intro X hP hw hK hc i pins s σ H E I hf st hg
    subst hP hw hK
    obtain⟨xs,ys,x,y,q1,q2,hx,hy⟩:=hg
    obtain⟨hz,hI,⟨a,b,hO⟩,u1,u2⟩:=id st
    obtain⟨its1,rv1,p1,z1⟩:=I.tuple q1
    obtain⟨its2,rv2,p2,z2⟩:=I.tuple q2
    obtain⟨ux,hux,rux⟩:=rv1.get hx
    obtain⟨uy,huy,ruy⟩:=rv2.get hy
    have fz:=hf z ↥1;have fO:=hf TO ↥1;have f1:=hf i1 ↥1;have f2:=hf i2 ↥1
    have D:jm z TI TO i1 i2 l1 l2:=⟨n1,n2,n3,n4,n5,n6,aJ I fz q1,aJ I fO q1,aJ I f1 q1,aJ I f2 q1,aJ I fz q2,aJ I fO q2,aJ I f1 q2,aJ I f2 q2⟩
    refine ml (xs:=its1.toArray) (ys:=its2.toArray) (iG i1 l1) (iG i2 l2) D hz hI hO u1 u2 p1 p2 (by simpa using hux) (by simpa using huy) fun g gz gO g1 g2 gT gs gk=>?_
    refine⟨_,rfl,wpAny_letOwnedTupleGo_zip gz fun g' gz' ge=>?_⟩
    have lt:∀b∈[z,TI,TO,i1,i2],b < ↑s:=fun b hb=>by
      simp only [List.mem_cons,List.not_mem_nil,or_false] at hb
      rcases hb with rfl | rfl | rfl | rfl | rfl
      · exact Heap.lt_size hz
      · exact Heap.lt_size hI
      · exact Heap.lt_size hO
      · obtain⟨o,e,_⟩:=u1;exact Heap.lt_size e
      · obtain⟨o,e,_⟩:=u2;exact Heap.lt_size e
    have hT:H ↑s=none:=I.hok.fresh ↥8
    have vv:aU [x,y] [ux,uy]:=.cons rux (.cons ruy .nil)
    have I1:aF X pins σ (a_ H ↑s (.tup [x,y])) {s with heap:=s.heap.push {cls:=.type "tuple",data:=.seq #[ux,uy]},toks:=s.toks}:=
      I.laid (t':=s.toks) (fun b u e=>Heap.get?_push_of_some _ e) ↥8 ⟨(by show 2≤sizeLine;decide),[ux,uy],vv,kN.new _ _⟩
    have hf1:∀b∈[z,TI,TO,i1,i2],f_ X pins (a_ H ↑s (.tup [x,y])) b:=fun b hb=>by
      obtain⟨f0,fr⟩:=hf b hb
      exact⟨by rw [ar (Nat.ne_of_lt (lt b hb))];exact f0,fr⟩
    have nzT:↑s≠z:=Nat.ne_of_gt (lt z ↥1)
    have I2:aF X pins σ (a_ H ↑s (.tup [x,y])) {s with heap:=g',toks:=s.toks}:=by
      refine I1.turnedL (t':=s.toks) hf1 fun b o nb e=>?_
      have nb':b≠z∧b≠TI∧b≠TO∧b≠i1∧b≠i2:=by simpa using nb
      refine ge.extBut _ _ nb'.1 ?_
      rcases Heap.get?_push_cases e with ⟨rfl,rfl⟩ | e
      · exact gT
      · exact gk b o nb'.1 nb'.2.2.1 nb'.2.2.2.1 nb'.2.2.2.2 e
    refine⟨.ref ↑s,_,I2,rfl,⟨_,x,y,rfl,hT,rfl,fun xs' ys' w1 w2=>?_⟩,⟨gz',ge.extBut _ _ n7 (gk _ _ n7 n8 n9 n10 hI),⟨ux,uy,ge.extBut _ _ n1 gO⟩,g1.at fun o e=>ge.extBut _ _ n2 e,g2.at fun o e=>ge.extBut _ _ n3 e⟩,fun b hb=>(hf1 b hb).1⟩
    rw [I.tuple_inj w1 q1,I.tuple_inj w2 q2]
    exact⟨hx,hy⟩
  done:=by
    intro X hP hw hK hc i pins s σ H E I hf st hg
    subst hP hw hK
    obtain⟨xs,ys,q1,q2,hn⟩:=hg
    obtain⟨hz,hI,⟨a,b,hO⟩,u1,u2⟩:=id st
    obtain⟨its1,rv1,p1,z1⟩:=I.tuple q1
    obtain⟨its2,rv2,p2,z2⟩:=I.tuple q2
    have fz:=hf z ↥1;have fO:=hf TO ↥1;have f1:=hf i1 ↥1;have f2:=hf i2 ↥1
    have D:jm z TI TO i1 i2 l1 l2:=⟨n1,n2,n3,n4,n5,n6,aJ I fz q1,aJ I fO q1,aJ I f1 q1,aJ I f2 q1,aJ I fz q2,aJ I fO q2,aJ I f1 q2,aJ I f2 q2⟩
    have e1:=rv1.length
    have e2:=rv2.length
    refine mn (xs:=its1.toArray) (ys:=its2.toArray) (I.ok.hd hc) (iG i1 l1) (iG i2 l2) D hz hI hO u1 u2 p1 p2 ?_ fun g gk=>⟨rfl,I.turnedL (t':=s.toks) hf fun b o nb e=>?_⟩
    · rcases hn with hn | hn
      · exact .inl ↥7
      · exact .inr ↥7
    · have nb':b≠z∧b≠TI∧b≠TO∧b≠i1∧b≠i2:=by simpa using nb
      exact gk b o nb'.1 nb'.2.2.1 nb'.2.2.2.1 nb'.2.2.2.2 e
  self:=fun A i s Q E st h=>wpAny_pyIter_zip st.1 h
theorem CM(l1 l2:Addr)(xs ys:Array Value):
    Meets (Builtin.«zip.__new__» ⟨[.type "zip",.ref l1,.ref l2],[]⟩) (fun _ R s=>s.heap.IsTuple l1 xs∧s.heap.IsTuple l2 ys∧
      R (.ok (.ret (.ref (↑s+4)))) {s with heap:=((((s.heap.push {cls:=.type "tuple_iterator",data:=.fields #[.ref l1,.int 0 0]}).push {cls:=.type "tuple_iterator",data:=.fields #[.ref l2,.int 0 0]}).push {cls:=.type "tuple",data:=.seq #[.ref ↑s,.ref (↑s+1)]}).push {cls:=.type "tuple",data:=.seq #[.none,.none]}).push {cls:=.type "zip",data:=.fields #[.none,.bool false,.bool false,.ref (↑s+2),.ref (↑s+3)]}}):=
  .of_wp fun prog w A R s h=>by
    obtain⟨hp,g,d,tk,os⟩:=s;obtain⟨t1,t2,h⟩:=h;have sz:=PySem.sub_zip
    have T1:Heap.IsTuple (Shared.heap ⟨hp,g,d,tk,os⟩) l1 xs:=t1
    have T2:Heap.IsTuple (Shared.heap ⟨hp.push {cls:=.type "tuple_iterator",data:=.fields #[.ref l1,.int 0 0]},g,d,tk,os⟩) l2 ys:=Heap.IsTuple.push t2 _
    wp_walk using wpAny_pyIter_tuple T1,wpAny_pyIter_tuple T2
    refine⟨_,rfl,?_⟩
    simp only [Heap.size_push]
    exact h
section
variable{prog:Program}{w:World}{A:Around}{E:Value→Shared→Prop}{s:Shared}
theorem A7{l1 l2:Addr}{xs ys:Array Value}{Q:Value→Shared→Prop}(t1:s.heap.IsTuple l1 xs)(t2:s.heap.IsTuple l2 ys)
    (h:∀g,Dx (↑s+4) (↑s+2) (↑s+3) ↑s (↑s+1) l1 l2 0 g→(∀c o,s.heap.get? c=some o→g.get? c=some o)→Q (.ref (↑s+4)) {s with heap:=g}):
    wpAny (model prog w) A (call (.type "zip") [.ref l1,.ref l2]) Q E s:=by
  refine callType_new F.called_zip ⋯ (F.typeCall_zip_2 _ _) (F.newCall_zip_2 _ _) (fun obj=>F.args_object_init_3 obj _ _) F.entry_zip_new (CM l1 l2 xs ys) ⟨t1,t2,?_⟩
  have at5:∀(g:Heap) (o:Obj) (a:Addr),o.isFreed=false→a=g.objs.size→(g.push o).get? a=some o:=fun g o a hf e=>by rw [e];exact Heap.get?_push_size _ hf
  have g5:=at5 ((((s.heap.push {cls:=.type "tuple_iterator",data:=.fields #[.ref l1,.int 0 0]}).push {cls:=.type "tuple_iterator",data:=.fields #[.ref l2,.int 0 0]}).push {cls:=.type "tuple",data:=.seq #[.ref ↑s,.ref (↑s+1)]}).push {cls:=.type "tuple",data:=.seq #[.none,.none]}) {cls:=.type "zip",data:=.fields #[.none,.bool false,.bool false,.ref (↑s+2),.ref (↑s+3)]} (↑s+4) rfl (by simp only [Heap.size_push])
  have g4:=at5 (((s.heap.push {cls:=.type "tuple_iterator",data:=.fields #[.ref l1,.int 0 0]}).push {cls:=.type "tuple_iterator",data:=.fields #[.ref l2,.int 0 0]}).push {cls:=.type "tuple",data:=.seq #[.ref ↑s,.ref (↑s+1)]}) {cls:=.type "tuple",data:=.seq #[.none,.none]} (↑s+3) rfl (by simp only [Heap.size_push])
  have g3:=at5 ((s.heap.push {cls:=.type "tuple_iterator",data:=.fields #[.ref l1,.int 0 0]}).push {cls:=.type "tuple_iterator",data:=.fields #[.ref l2,.int 0 0]}) {cls:=.type "tuple",data:=.seq #[.ref ↑s,.ref (↑s+1)]} (↑s+2) rfl (by simp only [Heap.size_push])
  have g2:=at5 (s.heap.push {cls:=.type "tuple_iterator",data:=.fields #[.ref l1,.int 0 0]}) {cls:=.type "tuple_iterator",data:=.fields #[.ref l2,.int 0 0]} (↑s+1) rfl (by simp only [Heap.size_push])
  have g1:=at5 s.heap {cls:=.type "tuple_iterator",data:=.fields #[.ref l1,.int 0 0]} ↑s rfl rfl
  have up:∀{g:Heap} {a:Addr} {u:Obj} (o:Obj),g.get? a=some u→(g.push o).get? a=some u:=fun o e=>Heap.get?_push_of_some o e
  refine⟨⟨_,g5,rfl⟩,h _ ⟨g5,up _ (up _ g3),⟨_,_,up _ g4⟩,⟨_,up _ (up _ (up _ (up _ g1))),rfl,rfl⟩,⟨_,up _ (up _ (up _ g2)),rfl,rfl⟩⟩ fun c o x=>up _ (up _ (up _ (up _ (up _ x))))⟩
end
theorem lA:PySem.bootBuiltins "zip"=some (.type "zip"):=by decide+kernel
def Ho(K:⇑0)(ta:TA):TI:=fun σ H R=>ta σ H fun vs H1=>∃a b,vs=[.ref a,.ref b]∧(∃xs,cm K H1 a xs)∧(∃ys,cm K H1 b ys)∧R (HM K a b) H1
theorem Ex{X:Cx}{K:⇑0}{es:List Expr}{k0:Nat}{tp:Pos}{a b:Expr}{ta:TA}{p pos:Pos}(hK:X.K=K)(hg:Gl X "zip")(hm:X.mg "zip"=none)(ha:PA X [a,b] ta)(hs:starEach [a,b] X.env=[(false,eval a X.env),(false,eval b X.env)]:=by rfl)(hs2:starEach [b] X.env=[(false,eval b X.env)]:=by rfl):
    PI X (.Tuple es k0 tp) (.Call (.Name "zip" p) [a,b] [] pos) (Ho K ta):=by
  intro pins s σ H R I h
  subst hK
  refine Call_ (iD I hg hm lA (PyProof.Rows.callWith_type1 (bS (ha pos pins s σ H _ I h) fun us s1 ⟨vs,H1,I1,r1,q1⟩=>?_) (by rw [hs,hs2]) (by rw [hs2];rfl)))
  obtain⟨a,b,e,⟨xs,qx⟩,⟨ys,qy⟩,q⟩:=q1
  subst e
  cases r1 with
  | cons r rr=>
    cases rr with
    | cons r' rr=>
      cases rr
      cases r
      cases r'
      obtain⟨i1,v1,p1,_⟩:=I1.tuple qx
      obtain⟨i2,v2,p2,_⟩:=I1.tuple qy
      refine A7 p1 p2 fun g st hk=>wpAny_pyIter_zip st.1 ?_
      have I2:aF X pins σ H1 {s1 with heap:=g,toks:=s1.toks}:=I1.kept (t':=s1.toks) fun b o e=>hk b o e
      refine⟨↑s1+4,[↑s1+4,↑s1+2,↑s1+3,↑s1,↑s1+1],_,_,H1,rfl,I2,AZ a b (show((↑s1+3:Nat)≠↑s1+4) by lia) (show((↑s1:Nat)≠↑s1+4) by lia) (show((↑s1+1:Nat)≠↑s1+4) by lia) (show((↑s1+3:Nat)≠↑s1) by lia) (show((↑s1+3:Nat)≠↑s1+1) by lia) (show((↑s1:Nat)≠↑s1+1) by lia) (show((↑s1+2:Nat)≠↑s1+4) by lia) (show((↑s1+2:Nat)≠↑s1+3) by lia) (show((↑s1+2:Nat)≠↑s1) by lia) (show((↑s1+2:Nat)≠↑s1+1) by lia),st,fun c hc=>?_,q⟩
      have le:↑s1≤c:=by
        simp only [List.mem_cons,List.not_mem_nil,or_false] at hc
        rcases hc with rfl | rfl | rfl | rfl | rfl
        · exact Nat.le_add_right _ 4
        · exact Nat.le_add_right _ 2
        · exact Nat.le_add_right _ 3
        · exact Nat.le_refl _
        · exact Nat.le_add_right _ 1
      have f:=I1.fpOk (H':=H1) le (I1.hok.fresh le)
      exact f
def Dy(h:Heap)(z TI TO:Addr)(a:Addr)(f:Bool):Prop:=h.get? z=some {cls:=.type "zip",data:=.fields #[rawInt a,.bool f,.bool false,.ref TI,.ref TO]}
section
variable{prog:Program}{w:World}{A:Around}{E:Value→Shared→Prop}{s:Shared}{z TI TO i1 i2 l1 l2:Addr}{k:Nat}{xs ys:Array Value}{a:Addr}{f:Bool}{S1 S2:Nat→Heap→Prop}{R1 R2:Heap→Array Value→Prop}
end
structure ZL (S z TI TO i1 i2 l1 l2:Addr) (xs ys:Array Value) (i:Nat) (h:Heap):Prop where
  pr:IsPair h TI (.ref i1) (.ref i2)
  t1:h.IsTupleIter i1 l1 i
  t2:h.IsTupleIter i2 l2 i
  s1:h.IsTuple l1 xs
  s2:h.IsTuple l2 ys
  ot:∃o,h.get? TO=some o
  zs:(IsZip h z TI TO .none∧∃a b,IsPair h TO a b)∨∃a f oa,Dy h z TI TO a f∧h.get? a=some oa∧a≠S∧a≠z∧a≠i1∧a≠i2
structure HL (S z TO i1 i2:Addr) (xs ys:Array Value) (h:Heap) (acc:Array Value) (i:Nat):Prop where
  sz:acc.size=i
  at_:∀(j:Nat) (v:Value),acc[j]?=some v→∃(p:Addr) (x y:Value),v=.ref p∧xs[j]?=some x∧ys[j]?=some y∧IsPair h p x y∧p≠S∧p≠z∧p≠TO∧p≠i1∧p≠i2
  lo:∀(j:Nat) (p:Addr),acc[j]?=some (.ref p)→S < p
  Il:∀(i j:Nat) (p q:Addr),i < j→acc[i]?=some (.ref p)→acc[j]?=some (.ref q)→p < q
section
variable{prog:Program}{w:World}{A:Around}{R:Result→Shared→Prop}{S z TI TO i1 i2 l1 l2:Addr}{xs ys:Array Value}{n:Nat}
end
section
variable{X:Cx}{pins:List (Addr × Obj)}{σ:L2.St}{H H':Hp}{s:Shared}{h':Heap}
end
section
variable{prog:Program}{w:World}{A:Around}{E:Value→Shared→Prop}{s:Shared}{e it l:Addr}{k:Nat}{xs:Array Value}{S:Nat→Heap→Prop}{R:Heap→Array Value→Prop}
theorem ut(P1:Sc prog w it l S R)(hh:A.handled=none)(hne:l≠it)(xs:Array Value):Draws prog w A it [it,l] xs.size (fun i v=>xs[i]?=some v) (fun i h=>S i h∧R h xs) where
  live:=fun _ _ st=>let ⟨o,ho,_⟩:=P1.live st.1;⟨o,ho⟩
  frame:=fun _ _ _ st hk=>⟨P1.stay st.1 fun o e=>hk it ↥1 o e,P1.row st.2 fun o e=>hk l ↥1 o e⟩
  item:=fun i s Q E hi st hQ=>P1.next st.1 st.2 (x:=xs[i]) (by simp [hi]) fun g h1 h2=>hQ _ g s.toks (by simp [hi]) ⟨h1,P1.row st.2 fun o e=>h2.extBut _ _ hne e⟩ h2
  done:=fun s Q E st hE=>P1.last hh st.1 st.2 ↥1 hE
theorem qE{i:Int}{old:Value}{Q:Option Value→Shared→Prop}(P1:Sc prog w it l S R)(hh:A.handled=none)(he:IsEnum s.heap e it i old)(st:S k s.heap)(sq:R s.heap xs)(hx:xs[k]?=none)(q:∀g,Heap.ExtBut it s.heap g→Q none {s with heap:=g}):wpAny (model prog w) A (pyNext (.ref e)) Q E s:=by
  have hT:s.TypeIs (.ref e) "enumerate":=⟨_,he,rfl⟩;unfold pyNext
  refine wpAny_bind (wpAny_attempt (wpAny_callSpecial?_slot (name:=Str.ofString "__next__") hT F.slot_enumerate_next (wpAny_call_entry F.slot_enumerate_next hT F.entry_enumerate_next ?_ (F.args_enumerate_next_1 _))))
  show wpAny _ _ (field (.ref e) 2 >>= _) _ _ _;refine wpAny_bind (wpAny_field he rfl (x:=.ref it) rfl ?_)
  refine wpAny_bind (P1.last hh st sq hx fun g x hk hx'=>?_);obtain⟨o,ho,hc⟩:=hx'
  refine wpAny_bind (wpAny_isInstance (T:="StopIteration") (b:=true) ⟨o,ho,hc⟩ isSubtype_stop ?_);exact wpAny_pure (q _ hk)
theorem j7{i:Int}{old:Value}{Q:Value→Shared→Prop}(he:IsEnum s.heap e it i old)(h:Q (.ref e) s):wpAny (model prog w) A (pyIter (.ref e)) Q E s:=by
  have hT:s.TypeIs (.ref e) "enumerate":=⟨_,he,rfl⟩
  refine wpAny_pyIter_slot hT F.slot_enumerate_iter (wpAny_call_entry F.slot_enumerate_iter hT F.entry_enumerate_iter ?_ (F.args_enumerate_iter_1 _))
  show wpAny _ _ (ret (.ref e)) _ _ s;exact wpAny_pure ⟨_,rfl,"enumerate",_,hT,F.slot_enumerate_next.lookup,h⟩
end
section
variable{X:Cx}{pins:List (Addr × Obj)}{σ:L2.St}{H:Hp}{s:Shared}
theorem aA(I:aF X pins σ H s){b l:Addr}{xs:List V}(f:f_ X pins H b)(q:dS X.K H l xs):l≠b:=by
  intro z
  subst z
  rcases q with (q | ⟨o,q⟩) | ⟨o,its,n,hk,_⟩
  · rw [f.1] at q;cases q
  · rw [f.1] at q;cases q
  · have hb:X.base.get? l=some o:=I.ok.mod.kin l o hk
    rcases f.2.2.2.1 with z | z
    · exact I.ok.noex l o hb z
    · exact absurd (Nat.lt_of_lt_of_le (Heap.lt_size (I.ok.bs l o hb).1) z) (Nat.lt_irrefl _)
end
def DB(K:⇑0)(l:Addr):It:=
  ⟨fun i H=>∃xs x,cm K H l xs∧xs[i]?=some x,fun i H v H'=>∃p x,v=.ref p∧H p=none∧H'=a_ H p (.tup [.int i,x])∧∀xs,cm K H l xs→xs[i]?=some x,fun i H=>∃xs,cm K H l xs∧xs.length≤i⟩
def wC(e it l:Addr)(i:Nat)(h:Heap):Prop:=(∃old,IsEnum h e it i old)∧h.IsTupleIter it l i
theorem vU{P:Program}{w:World}{K:⇑0}{es:List Expr}{k0:Nat}{pos:Pos}{e it:Addr}(l:Addr)(ne:e≠it):p5 P w K (.Tuple es k0 pos) (DB K l) [e,it] e (wC e it l) where
  mem:=by simp
  obj:=fun i h st b hb=>by
    obtain⟨⟨old,he⟩,u⟩:=st
    simp only [List.mem_cons,List.not_mem_nil,or_false] at hb
    rcases hb with rfl | rfl
    · exact⟨_,he,fun v z=>by cases z⟩
    · obtain⟨o,e,c,d⟩:=u
      exact⟨o,e,fun v z=>by rw [d] at z;cases z⟩
  keep:=fun i h h' st k=>by
    obtain⟨⟨old,he⟩,u⟩:=st
    exact⟨⟨old,k _ ↥1 _ he⟩,u.at fun o e=>k _ ↥1 o e⟩
  item:=by
    intro X hP hw hK hc i pins s σ H E I hf st hg
    subst hP hw hK
    obtain⟨xs,x,q1,hx⟩:=hg
    obtain⟨⟨old,he⟩,u⟩:=id st
    obtain⟨its,rv,p,hz⟩:=I.tuple q1
    obtain⟨ux,hux,rux⟩:=rv.get hx
    have fe:=hf e ↥1;have ft:=hf it ↥1
    have n1:l≠e:=aJ I fe q1
    have n2:l≠it:=aJ I ft q1
    have hi:i < its.toArray.size:=by have:=(LG hux).1;simpa using this
    refine wpAny_pyNext_enum_itemD (ut (A:=X.A.in1) (iG it l) (show X.A.in1.handled=none from I.ok.hd hc) n2 its.toArray) he ⟨u,p⟩ hi ne (by simpa using ⟨ne,fun z=>n1 z.symm⟩) fun x' g tk hP ho hs hT hsz hk=>?_
    have ex:x'=ux:=by
      have:its[i]?=some x':=by simpa using hP
      rw [hux] at this;exact(Option.some.inj this).symm
    subst ex
    refine⟨_,rfl,wpAny_letOwnedTupleGo_enum ho fun g' he' ge=>?_⟩
    have lt:∀b∈[e,it],b < ↑s:=fun b hb=>by
      simp only [List.mem_cons,List.not_mem_nil,or_false] at hb
      rcases hb with rfl | rfl
      · exact Heap.lt_size he
      · obtain⟨o,e,_⟩:=u;exact Heap.lt_size e
    have hTn:H ↑s=none:=I.hok.fresh ↥8
    have vv:aU [.int i,x] [.int i tk,x']:=.cons ⟨tk,rfl⟩ (.cons rux .nil)
    have I1:aF X pins σ (a_ H ↑s (.tup [.int i,x])) {s with heap:=s.heap.push {cls:=.type "tuple",data:=.seq #[.int i tk,x']},toks:=s.toks}:=
      I.laid (t':=s.toks) (fun b u e=>Heap.get?_push_of_some _ e) ↥8 ⟨(by show 2≤sizeLine;decide),[.int i tk,x'],vv,kN.new _ _⟩
    have hf1:∀b∈[e,it],f_ X pins (a_ H ↑s (.tup [.int i,x])) b:=fun b hb=>by
      obtain⟨f0,fr⟩:=hf b hb
      exact⟨by rw [ar (Nat.ne_of_lt (lt b hb))];exact f0,fr⟩
    have I2:aF X pins σ (a_ H ↑s (.tup [.int i,x])) {s with heap:=g',toks:=tk+1}:=by
      refine I1.turnedL (t':=tk+1) hf1 fun b o nb eb=>?_
      have nb':b≠e∧b≠it:=by simpa using nb
      refine ge.extBut _ _ nb'.1 ?_
      rcases Heap.get?_push_cases eb with ⟨rfl,rfl⟩ | eb
      · exact hT
      · exact hk b o nb'.1 nb'.2 eb
    refine⟨.ref ↑s,_,I2,rfl,⟨_,x,rfl,hTn,rfl,fun xs' w1=>by rw [I.tuple_inj w1 q1];exact hx⟩,⟨⟨_,by simpa using he'⟩,hs.1.at fun o e=>ge.extBut _ _ (fun z=>ne z.symm) e⟩,fun b hb=>(hf1 b hb).1⟩
  done:=by
    intro X hP hw hK hc i pins s σ H E I hf st hg
    subst hP hw hK
    obtain⟨xs,q1,hn⟩:=hg
    obtain⟨⟨old,he⟩,u⟩:=id st
    obtain⟨its,rv,p,hz⟩:=I.tuple q1
    have e1:=rv.length
    refine qE (xs:=its.toArray) (iG it l) (I.ok.hd hc) he u p ↥7 fun g gk=>⟨rfl,I.turnedL (t':=s.toks) hf fun b o nb eb=>?_⟩
    have nb':b≠e∧b≠it:=by simpa using nb
    exact gk b o nb'.2 eb
  self:=fun A i s Q E st h=>by
    obtain⟨⟨old,he⟩,u⟩:=st
    exact j7 he h
def Dz(K:⇑0)(l:Addr):It:=
  ⟨fun i H=>∃xs x,dS K H l xs∧xs[i]?=some x,fun i H v H'=>∃p x,v=.ref p∧H p=none∧H'=a_ H p (.tup [.int i,x])∧∀xs,dS K H l xs→xs[i]?=some x,fun i H=>∃xs,dS K H l xs∧xs.length≤i⟩
def Bk(e it l:Addr)(i:Nat)(h:Heap):Prop:=(∃old,IsEnum h e it i old)∧h.IsListIter it l i
theorem vT{P:Program}{w:World}{K:⇑0}{es:List Expr}{k0:Nat}{pos:Pos}{e it:Addr}(l:Addr)(ne:e≠it):p5 P w K (.Tuple es k0 pos) (Dz K l) [e,it] e (Bk e it l) where
  mem:=by simp
  obj:=fun i h st b hb=>by
    obtain⟨⟨old,he⟩,u⟩:=st
    simp only [List.mem_cons,List.not_mem_nil,or_false] at hb
    rcases hb with rfl | rfl
    · exact⟨_,he,fun v z=>by cases z⟩
    · obtain⟨o,e,c,d⟩:=u
      exact⟨o,e,fun v z=>by rw [d] at z;cases z⟩
  keep:=fun i h h' st k=>by
    obtain⟨⟨old,he⟩,u⟩:=st
    exact⟨⟨old,k _ ↥1 _ he⟩,u.at fun o e=>k _ ↥1 o e⟩
  item:=by
    intro X hP hw hK hc i pins s σ H E I hf st hg
    subst hP hw hK
    obtain⟨xs,x,q1,hx⟩:=hg
    obtain⟨⟨old,he⟩,u⟩:=id st
    obtain⟨its,rv,p,hz⟩:=I.list q1
    obtain⟨ux,hux,rux⟩:=rv.get hx
    have fe:=hf e ↥1;have ft:=hf it ↥1
    have n1:l≠e:=aA I fe q1
    have n2:l≠it:=aA I ft q1
    have hi:i < its.toArray.size:=by have:=(LG hux).1;simpa using this
    refine wpAny_pyNext_enum_itemD (ut (A:=X.A.in1) (eU it l) (show X.A.in1.handled=none from I.ok.hd hc) n2 its.toArray) he ⟨u,p.isList⟩ hi ne (by simpa using ⟨ne,fun z=>n1 z.symm⟩) fun x' g tk hP ho hs hT hsz hk=>?_
    have ex:x'=ux:=by
      have:its[i]?=some x':=by simpa using hP
      rw [hux] at this;exact(Option.some.inj this).symm
    subst ex
    refine⟨_,rfl,wpAny_letOwnedTupleGo_enum ho fun g' he' ge=>?_⟩
    have lt:∀b∈[e,it],b < ↑s:=fun b hb=>by
      simp only [List.mem_cons,List.not_mem_nil,or_false] at hb
      rcases hb with rfl | rfl
      · exact Heap.lt_size he
      · obtain⟨o,e,_⟩:=u;exact Heap.lt_size e
    have hTn:H ↑s=none:=I.hok.fresh ↥8
    have vv:aU [.int i,x] [.int i tk,x']:=.cons ⟨tk,rfl⟩ (.cons rux .nil)
    have I1:aF X pins σ (a_ H ↑s (.tup [.int i,x])) {s with heap:=s.heap.push {cls:=.type "tuple",data:=.seq #[.int i tk,x']},toks:=s.toks}:=
      I.laid (t':=s.toks) (fun b u e=>Heap.get?_push_of_some _ e) ↥8 ⟨(by show 2≤sizeLine;decide),[.int i tk,x'],vv,kN.new _ _⟩
    have hf1:∀b∈[e,it],f_ X pins (a_ H ↑s (.tup [.int i,x])) b:=fun b hb=>by
      obtain⟨f0,fr⟩:=hf b hb
      exact⟨by rw [ar (Nat.ne_of_lt (lt b hb))];exact f0,fr⟩
    have I2:aF X pins σ (a_ H ↑s (.tup [.int i,x])) {s with heap:=g',toks:=tk+1}:=by
      refine I1.turnedL (t':=tk+1) hf1 fun b o nb eb=>?_
      have nb':b≠e∧b≠it:=by simpa using nb
      refine ge.extBut _ _ nb'.1 ?_
      rcases Heap.get?_push_cases eb with ⟨rfl,rfl⟩ | eb
      · exact hT
      · exact hk b o nb'.1 nb'.2 eb
    refine⟨.ref ↑s,_,I2,rfl,⟨_,x,rfl,hTn,rfl,fun xs' w1=>by rw [I.list_inj w1 q1];exact hx⟩,⟨⟨_,by simpa using he'⟩,hs.1.at fun o e=>ge.extBut _ _ (fun z=>ne z.symm) e⟩,fun b hb=>(hf1 b hb).1⟩
  done:=by
    intro X hP hw hK hc i pins s σ H E I hf st hg
    subst hP hw hK
    obtain⟨xs,q1,hn⟩:=hg
    obtain⟨⟨old,he⟩,u⟩:=id st
    obtain⟨its,rv,p,hz⟩:=I.list q1
    have e1:=rv.length
    refine qE (xs:=its.toArray) (eU it l) (I.ok.hd hc) he u p.isList ↥7 fun g gk=>⟨rfl,I.turnedL (t':=s.toks) hf fun b o nb eb=>?_⟩
    have nb':b≠e∧b≠it:=by simpa using nb
    exact gk b o nb'.2 eb
  self:=fun A i s Q E st h=>by
    obtain⟨⟨old,he⟩,u⟩:=st
    exact j7 he h
section
variable{X:Cx}{a:Expr}{ta:TA}{p p2 pos pos2:Pos}
end
theorem xW:fillsNumberSlot (.type "tuple") "mul"=pure false:=
  PySem.fillsNumberSlot_seq (id:="tuple.__mul__") (r:=some (.builtin "tuple.__rmul__")) F.slot_tuple_mul.lookup ↥2 F.slot_tuple_rmul.lookup ↥2
theorem ET:seqRepeat? (.type "tuple")=pure (some (.builtin "tuple.__mul__")):=by
  unfold seqRepeat?;rw [PySem.seqSlot_of (T:="tuple") (name:="__mul__") (id:="tuple.__mul__") F.slot_tuple_mul.lookup ↥2,PySem.seqSlot_of (T:="tuple") (name:="__rmul__") (id:="tuple.__rmul__") F.slot_tuple_rmul.lookup ↥2];rfl
theorem Ck(a:Int)(t:Tok)(l:Addr)(items:Array Value)(n:Nat)(dd:Option Addr)(sl:Array (Option Value)):
    Meets (Builtin.«int.__rmul__» ⟨[.int a t,.ref l],[]⟩) (fun _ R s=>s.heap.get? l=some {cls:=.type "tuple",dict:=dd,data:=.seq items n,slots:=sl}∧R (.ok (.ret Value.notImplemented)) s):=
  .of_wp fun prog w A R s h=>by obtain⟨hp,g,d,tk,os⟩:=s;obtain⟨hl,h⟩:=h;wp_walk;exact⟨_,rfl,h⟩
theorem D8(l:Addr)(x:Value)(n:Nat)(k:Int)(u:Tok)(dd:Option Addr)(sl:Array (Option Value))(h0:2≤k)(h1:k≤100000):
    Meets (Builtin.«tuple.__mul__» ⟨[.ref l,.int k u],[]⟩) (fun _ R s=>s.heap.get? l=some {cls:=.type "tuple",dict:=dd,data:=.seq #[x] n,slots:=sl}∧
      R (.ok (.ret (.ref ↑s))) {s with heap:=s.heap.push {cls:=.type "tuple",data:=.seq (List.replicate k.toNat x).toArray}}):=
  .of_wp fun prog w A R s h=>by
    obtain⟨hp,g,d,tk,os⟩:=s;obtain⟨hl,h⟩:=h
    have f1:=AutoSeq1.idx_int
    have c1:¬(decide (k < -(2 ^ 63)) || decide (k≥2 ^ 63))=true:=by simp;lia
    have c2:¬((#[x]:Array Value).isEmpty || k==1)=true:=by simp;lia
    have c3:¬(decide (k≤0) || (#[x]:Array Value).isEmpty)=true:=by simp;lia
    have c4:¬(((#[x]:Array Value).size:Int)*k > (2 ^ 63 - 1) / 8):=by simp;lia
    have c5:¬Builtin.Tuple.tupleTooMany (((#[x]:Array Value).size:Int)*k)=true:=by
      unfold Builtin.Tuple.tupleTooMany;rw [sizeLine_eq];simp;lia
    wp_walk using wpAny_loadPart' hl
    rw [if_neg c1]
    wp_walk using wpAny_loadPart' hl
    rw [if_neg c2]
    wp_walk using wpAny_loadPart' hl
    rw [if_neg c3]
    wp_walk using wpAny_loadPart' hl
    rw [if_neg c4]
    show wpAny _ _ (if Builtin.Tuple.tupleTooMany (((#[x]:Array Value).size:Int)*k)=true then _ else _) _ _ _
    rw [if_neg c5]
    have f0:∀(m:Nat) (acc:Array Value),List.foldl (fun x1 x2=>x1++x2) acc (List.replicate m #[x])=acc++(List.replicate m x).toArray:=by
      intro m
      induction m with
      | zero=>intro acc;simp
      | succ m ih=>intro acc;rw [List.replicate_succ,List.foldl_cons,ih,List.replicate_succ];apply Array.toList_inj.mp;simp
    have e:List.foldl (fun x1 x2=>x1++x2) #[] (List.replicate k.toNat #[x])=(List.replicate k.toNat x).toArray:=by rw [f0];simp
    show wpAny _ _ (Builtin.Tuple.tupleExact (List.foldl (fun x1 x2=>x1++x2) #[] (List.replicate k.toNat #[x])) >>= fun v=>ret v) _ _ _
    rw [e]
    unfold Builtin.Tuple.tupleExact
    refine wpAny_bind (wpAny_newObj_type ?_ (by show(List.replicate k.toNat x).toArray.size≤sizeLine;rw [List.size_toArray,List.length_replicate,sizeLine_eq];lia))
    exact wpAny_pure ⟨_,rfl,h⟩
theorem BA(l:Addr)(x:Value)(n:Nat)(u:Tok)(dd:Option Addr)(sl:Array (Option Value)):
    Meets (Builtin.«tuple.__mul__» ⟨[.ref l,.int 0 u],[]⟩) (fun _ R s=>s.heap.get? l=some {cls:=.type "tuple",dict:=dd,data:=.seq #[x] n,slots:=sl}∧R (.ok (.ret (.ref ↑s))) {s with heap:=s.heap.push {cls:=.type "tuple",data:=.seq #[]}}):=
  .of_wp fun prog w A R s h=>by
    obtain⟨hp,g,d,tk,os⟩:=s;obtain⟨hl,h⟩:=h;have f1:=AutoSeq1.idx_int
    have c2:¬((#[x]:Array Value).isEmpty || (0:Int)==1)=true:=by simp
    wp_walk using wpAny_loadPart' hl
    first | rw [if_neg c2] | skip
    wp_walk using wpAny_loadPart' hl
    exact⟨_,rfl,h⟩
theorem BB(l:Addr)(x:Value)(n:Nat)(u:Tok)(dd:Option Addr)(sl:Array (Option Value)):
    Meets (Builtin.«tuple.__mul__» ⟨[.ref l,.int 1 u],[]⟩) (fun _ R s=>s.heap.get? l=some {cls:=.type "tuple",dict:=dd,data:=.seq #[x] n,slots:=sl}∧R (.ok (.ret (.ref l))) s):=
  .of_wp fun prog w A R s h=>by
    obtain⟨hp,g,d,tk,os⟩:=s;obtain⟨hl,h⟩:=h;have f1:=AutoSeq1.idx_int
    wp_walk using wpAny_loadPart' hl
    exact⟨_,rfl,h⟩
section
variable{X:Cx}
def Aw(K:⇑0):R2:=fun x y H Q=>∃a k v,x=.ref a∧y=.int k∧cm K H a [v]∧0≤k∧k≤100000∧∀p H',aC H H'→cm K H' p (List.replicate k.toNat v)→Q (.ref p) H'
theorem BV:jv X (binaryOp .Mult) (Aw X.K):=by
  intro pins s σ H x y v u Q I rx ry h
  obtain⟨a,k,z,rfl,rfl,ha,k0,k1,q⟩:=h
  cases rx
  obtain⟨t,rfl⟩:=ry
  obtain⟨its,r,p,hz⟩:=I.tuple ha
  obtain⟨uz,rfl,rz⟩:=pz r
  obtain⟨⟨cls,dd,data,sl⟩,ho,hc,n,hd⟩:=id p
  simp only at hc hd
  subst hc hd
  refine wpAny_binaryOp_repeat_ref (T:="tuple") (U:="int") ⋯ ⟨_,ho,rfl⟩ (fun s'=>PySem.typeIs_int s' k t) xW F.fills_int_mul F.slot_int_rmul ET F.slot_int_index.lookup (call_meets F.slot_int_rmul (PySem.typeIs_int s k t) F.entry_int_rmul (F.args_int_rmul_2 _ _) (Ck k t a #[uz] n dd sl) ⟨ho,rfl,⟨_,ho,rfl⟩,?_⟩)
  have new:∀m:Nat,m=k.toNat→EP X pins σ Q (.ref ↑s) {s with heap:=s.heap.push {cls:=.type "tuple",data:=.seq (List.replicate m uz).toArray},toks:=s.toks}:=fun m hm=>by
    have hf:H ↑s=none:=I.hok.fresh ↥8
    have vv:∀j:Nat,aU (List.replicate j z) (List.replicate j uz):=fun j=>by
      induction j with
      | zero=>exact .nil
      | succ j ih=>exact .cons rz ih
    refine⟨.ref ↑s,_,I.laid (t':=s.toks) (o:=.tup (List.replicate m z)) (fun b ob q=>Heap.get?_push_of_some _ q) ↥8 ⟨by rw [List.length_replicate,sizeLine_eq];lia,_,vv m,kN.new _ _⟩,rfl,q _ _ (aC.new hf) (cm.of (by rw [az,hm]))⟩
  rcases(by lia:k=0∨k=1∨2≤k) with e | e | e
  · subst e
    exact call_meets F.slot_tuple_mul ⟨_,ho,rfl⟩ F.entry_tuple_mul (F.args_tuple_mul_2 _ _) (BA a uz n t dd sl) ⟨ho,new 0 rfl⟩
  · subst e
    exact call_meets F.slot_tuple_mul ⟨_,ho,rfl⟩ F.entry_tuple_mul (F.args_tuple_mul_2 _ _) (BB a uz n t dd sl) ⟨ho,⟨.ref a,H,I,rfl,q a H (aC.refl H) ha⟩⟩
  · exact call_meets F.slot_tuple_mul ⟨_,ho,rfl⟩ F.entry_tuple_mul (F.args_tuple_mul_2 _ _) (D8 a uz n k t dd sl e k1) ⟨ho,new _ rfl⟩
end
section
variable{prog:Program}{w:World}{A:Around}{E:Value→Shared→Prop}{s:Shared}
end
section
variable{X:Cx}{a:Expr}{ta:TA}{p p2 p3 pos pos2 pos3:Pos}
end
theorem xM(l:Addr)(xs:Array Value):
    Meets (Builtin.«enumerate.__new__» ⟨[.type "enumerate",.ref l],[]⟩) (fun _ R s=>s.heap.IsTuple l xs∧R (.ok (.ret (.ref (↑s+1)))) {s with heap:=(s.heap.push {cls:=.type "tuple_iterator",data:=.fields #[.ref l,.int 0 0]}).push {cls:=.type "enumerate",data:=.fields #[.none,.bool false,.ref ↑s,rawInt 0,.none,.none]}}):=
  .of_wp fun prog w A R s h=>by
    obtain⟨hp,g,d,tk,os⟩:=s;obtain⟨ht,h⟩:=h;have a1:=sub_enumerate
    have T1:Heap.IsTuple (Shared.heap ⟨hp,g,d,tk,os⟩) l xs:=ht
    obtain⟨⟨cls,dd,data,sl⟩,ho,hc,n,hd⟩:=id ht
    simp only at hc hd
    subst hc hd
    wp_walk using wpAny_loadPart' ho
    refine wpAny_stack_any fun st=>wpAny_pure ?_
    split
    · rename_i c _ _ _ _ _
      cases (c==Value.type "enumerate")
      · wp_walk using wpAny_loadPart' ho,wpAny_pyIter_tuple T1
        refine⟨_,rfl,?_⟩
        simp only [Heap.size_push]
        exact h
      · wp_walk using wpAny_loadPart' ho,wpAny_pyIter_tuple T1
        refine⟨_,rfl,?_⟩
        simp only [Heap.size_push]
        exact h
    · wp_walk using wpAny_loadPart' ho,wpAny_pyIter_tuple T1
      refine⟨_,rfl,?_⟩
      simp only [Heap.size_push]
      exact h
section
variable{prog:Program}{w:World}{A:Around}{E:Value→Shared→Prop}{s:Shared}
theorem uZ{l:Addr}{xs:Array Value}{Q:Value→Shared→Prop}(t1:s.heap.IsTuple l xs)(h:∀g,wC (↑s+1) ↑s l 0 g→(∀c o,s.heap.get? c=some o→g.get? c=some o)→Q (.ref (↑s+1)) {s with heap:=g}):wpAny (model prog w) A (call (.type "enumerate") [.ref l]) Q E s:=by
  refine callType_new F.called_enumerate ⋯ (F.typeCall_enumerate_1 _) (F.newCall_enumerate_1 _) (fun obj=>F.args_object_init_2 obj _) F.entry_enumerate_new (xM l xs) ⟨t1,?_⟩
  have g2:((s.heap.push {cls:=.type "tuple_iterator",data:=.fields #[.ref l,.int 0 0]}).push {cls:=.type "enumerate",data:=.fields #[.none,.bool false,.ref ↑s,rawInt 0,.none,.none]}).get? (↑s+1)=some {cls:=.type "enumerate",data:=.fields #[.none,.bool false,.ref ↑s,rawInt 0,.none,.none]}:=by
    have e:↑s+1=(s.heap.push {cls:=.type "tuple_iterator",data:=.fields #[.ref l,.int 0 0]}).objs.size:=by simp only [Heap.size_push]
    rw [e];exact Heap.get?_push_size _ rfl
  exact⟨⟨_,g2,rfl⟩,h _ ⟨⟨.none,g2⟩,⟨_,Heap.get?_push_of_some _ (Heap.get?_push_size _ rfl),rfl,rfl⟩⟩ fun c o x=>Heap.get?_push_of_some _ (Heap.get?_push_of_some _ x)⟩
end
theorem jC:PySem.bootBuiltins "enumerate"=some (.type "enumerate"):=by decide+kernel
def Hm(K:⇑0)(ta:TA):TI:=fun σ H R=>ta σ H fun vs H1=>∃a,vs=[.ref a]∧(∃xs,cm K H1 a xs)∧R (DB K a) H1
def Hl(K:⇑0)(ta:TA):TI:=fun σ H R=>ta σ H fun vs H1=>∃a,vs=[.ref a]∧(∃xs,dS K H1 a xs)∧R (Dz K a) H1
section
variable{X:Cx}{K:⇑0}{es:List Expr}{k0:Nat}{tp:Pos}{a:Expr}{ta:TA}{p pos:Pos}
theorem Ab(hK:X.K=K)(hg:Gl X "enumerate")(hm:X.mg "enumerate"=none)(ha:PA X [a] ta)(hs:starEach [a] X.env=[(false,eval a X.env)]:=by rfl):PI X (.Tuple es k0 tp) (.Call (.Name "enumerate" p) [a] [] pos) (Hm K ta):=by
  intro pins s σ H R I h
  subst hK
  refine Call_ (iD I hg hm jC (PyProof.Rows.callWith_type1 (bS (ha pos pins s σ H _ I h) fun us s1 ⟨vs,H1,I1,r1,q1⟩=>?_) hs rfl))
  obtain⟨a,e,⟨xs,qx⟩,q⟩:=q1
  subst e
  obtain⟨u,rfl,ru⟩:=pz r1
  cases ru
  obtain⟨i1,v1,p1,_⟩:=I1.tuple qx
  refine uZ p1 fun g st hk=>?_
  obtain⟨⟨old,he⟩,hit⟩:=id st
  refine j7 he ?_
  have I2:aF X pins σ H1 {s1 with heap:=g,toks:=s1.toks}:=I1.kept (t':=s1.toks) fun b o e=>hk b o e
  refine⟨↑s1+1,[↑s1+1,↑s1],_,_,H1,rfl,I2,vU a (show((↑s1+1:Nat)≠↑s1) by lia),st,fun c hc=>?_,q⟩
  have le:↑s1≤c:=by
    simp only [List.mem_cons,List.not_mem_nil,or_false] at hc
    rcases hc with rfl | rfl
    · exact Nat.le_add_right _ 1
    · exact Nat.le_refl _
  exact I1.fpOk (H':=H1) le (I1.hok.fresh le)
theorem z_(hK:X.K=K)(hg:Gl X "enumerate")(hm:X.mg "enumerate"=none)(ha:PA X [a] ta)(hs:starEach [a] X.env=[(false,eval a X.env)]:=by rfl):PI X (.Tuple es k0 tp) (.Call (.Name "enumerate" p) [a] [] pos) (Hl K ta):=by
  intro pins s σ H R I h
  subst hK
  refine Call_ (iD I hg hm jC (PyProof.Rows.callWith_type1 (bS (ha pos pins s σ H _ I h) fun us s1 ⟨vs,H1,I1,r1,q1⟩=>?_) hs rfl))
  obtain⟨a,e,⟨xs,qx⟩,q⟩:=q1
  subst e
  obtain⟨u,rfl,ru⟩:=pz r1
  cases ru
  obtain⟨i1,v1,p1,_⟩:=I1.list qx
  refine call_enumerate_list p1.isList fun g he hit hsz hk=>?_
  refine j7 he ?_
  have I2:aF X pins σ H1 {s1 with heap:=g,toks:=s1.toks}:=I1.kept (t':=s1.toks) fun b o e=>hk b o e
  refine⟨↑s1+1,[↑s1+1,↑s1],_,_,H1,rfl,I2,vT a (show((↑s1+1:Nat)≠↑s1) by lia),⟨⟨_,he⟩,hit⟩,fun c hc=>?_,q⟩
  have le:↑s1≤c:=by
    simp only [List.mem_cons,List.not_mem_nil,or_false] at hc
    rcases hc with rfl | rfl
    · exact Nat.le_add_right _ 1
    · exact Nat.le_refl _
  exact I1.fpOk (H':=H1) le (I1.hok.fresh le)
end
def CU(K:⇑0)(l1 l2:Addr):It:=
  ⟨fun i H=>∃xs ys x y,dS K H l1 xs∧cm K H l2 ys∧xs[i]?=some x∧ys[i]?=some y,
   fun i H v H'=>∃p x y,v=.ref p∧H p=none∧H'=a_ H p (.tup [x,y])∧∀xs ys,dS K H l1 xs→cm K H l2 ys→xs[i]?=some x∧ys[i]?=some y,
   fun i H=>∃xs ys,dS K H l1 xs∧cm K H l2 ys∧(xs.length≤i∨ys.length≤i)⟩
def xA(z TI TO i1 i2 l1 l2:Addr)(i:Nat)(h:Heap):Prop:=IsZip h z TI TO .none∧IsPair h TI (.ref i1) (.ref i2)∧(∃a b,IsPair h TO a b)∧h.IsListIter i1 l1 i∧h.IsTupleIter i2 l2 i
theorem vZ{P:Program}{w:World}{K:⇑0}{es:List Expr}{k0:Nat}{pos:Pos}{z TI TO i1 i2:Addr}(l1 l2:Addr)(n1:TO≠z)(n2:i1≠z)(n3:i2≠z)(n4:TO≠i1)(n5:TO≠i2)(n6:i1≠i2)(n7:TI≠z)(n8:TI≠TO)(n9:TI≠i1)(n10:TI≠i2):
    p5 P w K (.Tuple es k0 pos) (CU K l1 l2) [z,TI,TO,i1,i2] z (xA z TI TO i1 i2 l1 l2) where
  mem:=by simp
  obj:=fun i h st b hb=>by
    obtain⟨hz,hI,⟨a,c,hO⟩,u1,u2⟩:=st
    simp only [List.mem_cons,List.not_mem_nil,or_false] at hb
    rcases hb with rfl | rfl | rfl | rfl | rfl
    · exact⟨_,hz,fun v z=>by cases z⟩
    · exact⟨_,hI,fun v z=>by cases z⟩
    · exact⟨_,hO,fun v z=>by cases z⟩
    · obtain⟨o,e,c,d⟩:=u1
      exact⟨o,e,fun v z=>by rw [d] at z;cases z⟩
    · obtain⟨o,e,c,d⟩:=u2
      exact⟨o,e,fun v z=>by rw [d] at z;cases z⟩
  keep:=fun i h h' st k=>by
    obtain⟨hz,hI,⟨a,c,hO⟩,u1,u2⟩:=st
    exact⟨k _ ↥1 _ hz,k _ ↥1 _ hI,⟨a,c,k _ ↥1 _ hO⟩,u1.at fun o e=>k _ ↥1 o e,u2.at fun o e=>k _ ↥1 o e⟩
  item:=by
    intro X hP hw hK hc i pins s σ H E I hf st hg
    subst hP hw hK
    obtain⟨xs,ys,x,y,q1,q2,hx,hy⟩:=hg
    obtain⟨hz,hI,⟨a,b,hO⟩,u1,u2⟩:=id st
    obtain⟨its1,rv1,p1,z1⟩:=I.list q1
    obtain⟨its2,rv2,p2,z2⟩:=I.tuple q2
    obtain⟨ux,hux,rux⟩:=rv1.get hx
    obtain⟨uy,huy,ruy⟩:=rv2.get hy
    have fz:=hf z ↥1;have fO:=hf TO ↥1;have f1:=hf i1 ↥1;have f2:=hf i2 ↥1
    have D:jm z TI TO i1 i2 l1 l2:=⟨n1,n2,n3,n4,n5,n6,aA I fz q1,aA I fO q1,aA I f1 q1,aA I f2 q1,aJ I fz q2,aJ I fO q2,aJ I f1 q2,aJ I f2 q2⟩
    refine ml (xs:=its1.toArray) (ys:=its2.toArray) (eU i1 l1) (iG i2 l2) D hz hI hO u1 u2 p1.isList p2 (by simpa using hux) (by simpa using huy) fun g gz gO g1 g2 gT gs gk=>?_
    refine⟨_,rfl,wpAny_letOwnedTupleGo_zip gz fun g' gz' ge=>?_⟩
    have lt:∀b∈[z,TI,TO,i1,i2],b < ↑s:=fun b hb=>by
      simp only [List.mem_cons,List.not_mem_nil,or_false] at hb
      rcases hb with rfl | rfl | rfl | rfl | rfl
      · exact Heap.lt_size hz
      · exact Heap.lt_size hI
      · exact Heap.lt_size hO
      · obtain⟨o,e,_⟩:=u1;exact Heap.lt_size e
      · obtain⟨o,e,_⟩:=u2;exact Heap.lt_size e
    have hT:H ↑s=none:=I.hok.fresh ↥8
    have vv:aU [x,y] [ux,uy]:=.cons rux (.cons ruy .nil)
    have I1:aF X pins σ (a_ H ↑s (.tup [x,y])) {s with heap:=s.heap.push {cls:=.type "tuple",data:=.seq #[ux,uy]},toks:=s.toks}:=
      I.laid (t':=s.toks) (fun b u e=>Heap.get?_push_of_some _ e) ↥8 ⟨(by show 2≤sizeLine;decide),[ux,uy],vv,kN.new _ _⟩
    have hf1:∀b∈[z,TI,TO,i1,i2],f_ X pins (a_ H ↑s (.tup [x,y])) b:=fun b hb=>by
      obtain⟨f0,fr⟩:=hf b hb
      exact⟨by rw [ar (Nat.ne_of_lt (lt b hb))];exact f0,fr⟩
    have nzT:↑s≠z:=Nat.ne_of_gt (lt z ↥1)
    have I2:aF X pins σ (a_ H ↑s (.tup [x,y])) {s with heap:=g',toks:=s.toks}:=by
      refine I1.turnedL (t':=s.toks) hf1 fun b o nb e=>?_
      have nb':b≠z∧b≠TI∧b≠TO∧b≠i1∧b≠i2:=by simpa using nb
      refine ge.extBut _ _ nb'.1 ?_
      rcases Heap.get?_push_cases e with ⟨rfl,rfl⟩ | e
      · exact gT
      · exact gk b o nb'.1 nb'.2.2.1 nb'.2.2.2.1 nb'.2.2.2.2 e
    refine⟨.ref ↑s,_,I2,rfl,⟨_,x,y,rfl,hT,rfl,fun xs' ys' w1 w2=>?_⟩,⟨gz',ge.extBut _ _ n7 (gk _ _ n7 n8 n9 n10 hI),⟨ux,uy,ge.extBut _ _ n1 gO⟩,g1.at fun o e=>ge.extBut _ _ n2 e,g2.at fun o e=>ge.extBut _ _ n3 e⟩,fun b hb=>(hf1 b hb).1⟩
    rw [I.list_inj w1 q1,I.tuple_inj w2 q2]
    exact⟨hx,hy⟩
  done:=by
    intro X hP hw hK hc i pins s σ H E I hf st hg
    subst hP hw hK
    obtain⟨xs,ys,q1,q2,hn⟩:=hg
    obtain⟨hz,hI,⟨a,b,hO⟩,u1,u2⟩:=id st
    obtain⟨its1,rv1,p1,z1⟩:=I.list q1
    obtain⟨its2,rv2,p2,z2⟩:=I.tuple q2
    have fz:=hf z ↥1;have fO:=hf TO ↥1;have f1:=hf i1 ↥1;have f2:=hf i2 ↥1
    have D:jm z TI TO i1 i2 l1 l2:=⟨n1,n2,n3,n4,n5,n6,aA I fz q1,aA I fO q1,aA I f1 q1,aA I f2 q1,aJ I fz q2,aJ I fO q2,aJ I f1 q2,aJ I f2 q2⟩
    have e1:=rv1.length
    have e2:=rv2.length
    refine mn (xs:=its1.toArray) (ys:=its2.toArray) (I.ok.hd hc) (eU i1 l1) (iG i2 l2) D hz hI hO u1 u2 p1.isList p2 ?_ fun g gk=>⟨rfl,I.turnedL (t':=s.toks) hf fun b o nb e=>?_⟩
    · rcases hn with hn | hn
      · exact .inl ↥7
      · exact .inr ↥7
    · have nb':b≠z∧b≠TI∧b≠TO∧b≠i1∧b≠i2:=by simpa using nb
      exact gk b o nb'.1 nb'.2.2.1 nb'.2.2.2.1 nb'.2.2.2.2 e
  self:=fun A i s Q E st h=>wpAny_pyIter_zip st.1 h
theorem yA(l1 l2:Addr)(xs ys:Array Value):
    Meets (Builtin.«zip.__new__» ⟨[.type "zip",.ref l1,.ref l2],[]⟩) (fun _ R s=>s.heap.IsList l1 xs∧s.heap.IsTuple l2 ys∧
      R (.ok (.ret (.ref (↑s+4)))) {s with heap:=((((s.heap.push {cls:=.type "list_iterator",data:=.fields #[.ref l1,.int 0 0]}).push {cls:=.type "tuple_iterator",data:=.fields #[.ref l2,.int 0 0]}).push {cls:=.type "tuple",data:=.seq #[.ref ↑s,.ref (↑s+1)]}).push {cls:=.type "tuple",data:=.seq #[.none,.none]}).push {cls:=.type "zip",data:=.fields #[.none,.bool false,.bool false,.ref (↑s+2),.ref (↑s+3)]}}):=
  .of_wp fun prog w A R s h=>by
    obtain⟨hp,g,d,tk,os⟩:=s;obtain⟨t1,t2,h⟩:=h;have sz:=PySem.sub_zip
    have T1:Heap.IsList (Shared.heap ⟨hp,g,d,tk,os⟩) l1 xs:=t1
    have T2:Heap.IsTuple (Shared.heap ⟨hp.push {cls:=.type "list_iterator",data:=.fields #[.ref l1,.int 0 0]},g,d,tk,os⟩) l2 ys:=Heap.IsTuple.push t2 _
    wp_walk using wpAny_pyIter_list T1,wpAny_pyIter_tuple T2
    refine⟨_,rfl,?_⟩
    simp only [Heap.size_push]
    exact h
section
variable{prog:Program}{w:World}{A:Around}{E:Value→Shared→Prop}{s:Shared}
theorem wf{l1 l2:Addr}{xs ys:Array Value}{Q:Value→Shared→Prop}(t1:s.heap.IsList l1 xs)(t2:s.heap.IsTuple l2 ys)
    (h:∀g,xA (↑s+4) (↑s+2) (↑s+3) ↑s (↑s+1) l1 l2 0 g→(∀c o,s.heap.get? c=some o→g.get? c=some o)→Q (.ref (↑s+4)) {s with heap:=g}):
    wpAny (model prog w) A (call (.type "zip") [.ref l1,.ref l2]) Q E s:=by
  refine callType_new F.called_zip ⋯ (F.typeCall_zip_2 _ _) (F.newCall_zip_2 _ _) (fun obj=>F.args_object_init_3 obj _ _) F.entry_zip_new (yA l1 l2 xs ys) ⟨t1,t2,?_⟩
  have at5:∀(g:Heap) (o:Obj) (a:Addr),o.isFreed=false→a=g.objs.size→(g.push o).get? a=some o:=fun g o a hf e=>by rw [e];exact Heap.get?_push_size _ hf
  have g5:=at5 ((((s.heap.push {cls:=.type "list_iterator",data:=.fields #[.ref l1,.int 0 0]}).push {cls:=.type "tuple_iterator",data:=.fields #[.ref l2,.int 0 0]}).push {cls:=.type "tuple",data:=.seq #[.ref ↑s,.ref (↑s+1)]}).push {cls:=.type "tuple",data:=.seq #[.none,.none]}) {cls:=.type "zip",data:=.fields #[.none,.bool false,.bool false,.ref (↑s+2),.ref (↑s+3)]} (↑s+4) rfl (by simp only [Heap.size_push])
  have g4:=at5 (((s.heap.push {cls:=.type "list_iterator",data:=.fields #[.ref l1,.int 0 0]}).push {cls:=.type "tuple_iterator",data:=.fields #[.ref l2,.int 0 0]}).push {cls:=.type "tuple",data:=.seq #[.ref ↑s,.ref (↑s+1)]}) {cls:=.type "tuple",data:=.seq #[.none,.none]} (↑s+3) rfl (by simp only [Heap.size_push])
  have g3:=at5 ((s.heap.push {cls:=.type "list_iterator",data:=.fields #[.ref l1,.int 0 0]}).push {cls:=.type "tuple_iterator",data:=.fields #[.ref l2,.int 0 0]}) {cls:=.type "tuple",data:=.seq #[.ref ↑s,.ref (↑s+1)]} (↑s+2) rfl (by simp only [Heap.size_push])
  have g2:=at5 (s.heap.push {cls:=.type "list_iterator",data:=.fields #[.ref l1,.int 0 0]}) {cls:=.type "tuple_iterator",data:=.fields #[.ref l2,.int 0 0]} (↑s+1) rfl (by simp only [Heap.size_push])
  have g1:=at5 s.heap {cls:=.type "list_iterator",data:=.fields #[.ref l1,.int 0 0]} ↑s rfl rfl
  have up:∀{g:Heap} {a:Addr} {u:Obj} (o:Obj),g.get? a=some u→(g.push o).get? a=some u:=fun o e=>Heap.get?_push_of_some o e
  refine⟨⟨_,g5,rfl⟩,h _ ⟨g5,up _ (up _ g3),⟨_,_,up _ g4⟩,⟨_,up _ (up _ (up _ (up _ g1))),rfl,rfl⟩,⟨_,up _ (up _ (up _ g2)),rfl,rfl⟩⟩ fun c o x=>up _ (up _ (up _ (up _ (up _ x))))⟩
end
def DS(K:⇑0)(ta:TA):TI:=fun σ H R=>ta σ H fun vs H1=>∃a b,vs=[.ref a,.ref b]∧(∃xs,dS K H1 a xs)∧(∃ys,cm K H1 b ys)∧R (CU K a b) H1
theorem Ad{X:Cx}{K:⇑0}{es:List Expr}{k0:Nat}{tp:Pos}{a b:Expr}{ta:TA}{p pos:Pos}(hK:X.K=K)(hg:Gl X "zip")(hm:X.mg "zip"=none)(ha:PA X [a,b] ta)(hs:starEach [a,b] X.env=[(false,eval a X.env),(false,eval b X.env)]:=by rfl)(hs2:starEach [b] X.env=[(false,eval b X.env)]:=by rfl):
    PI X (.Tuple es k0 tp) (.Call (.Name "zip" p) [a,b] [] pos) (DS K ta):=by
  intro pins s σ H R I h
  subst hK
  refine Call_ (iD I hg hm lA (PyProof.Rows.callWith_type1 (bS (ha pos pins s σ H _ I h) fun us s1 ⟨vs,H1,I1,r1,q1⟩=>?_) (by rw [hs,hs2]) (by rw [hs2];rfl)))
  obtain⟨a,b,e,⟨xs,qx⟩,⟨ys,qy⟩,q⟩:=q1
  subst e
  cases r1 with
  | cons r rr=>
    cases rr with
    | cons r' rr=>
      cases rr
      cases r
      cases r'
      obtain⟨i1,v1,p1,_⟩:=I1.list qx
      obtain⟨i2,v2,p2,_⟩:=I1.tuple qy
      refine wf p1.isList p2 fun g st hk=>wpAny_pyIter_zip st.1 ?_
      have I2:aF X pins σ H1 {s1 with heap:=g,toks:=s1.toks}:=I1.kept (t':=s1.toks) fun b o e=>hk b o e
      refine⟨↑s1+4,[↑s1+4,↑s1+2,↑s1+3,↑s1,↑s1+1],_,_,H1,rfl,I2,vZ a b (show((↑s1+3:Nat)≠↑s1+4) by lia) (show((↑s1:Nat)≠↑s1+4) by lia) (show((↑s1+1:Nat)≠↑s1+4) by lia) (show((↑s1+3:Nat)≠↑s1) by lia) (show((↑s1+3:Nat)≠↑s1+1) by lia) (show((↑s1:Nat)≠↑s1+1) by lia) (show((↑s1+2:Nat)≠↑s1+4) by lia) (show((↑s1+2:Nat)≠↑s1+3) by lia) (show((↑s1+2:Nat)≠↑s1) by lia) (show((↑s1+2:Nat)≠↑s1+1) by lia),st,fun c hc=>?_,q⟩
      have le:↑s1≤c:=by
        simp only [List.mem_cons,List.not_mem_nil,or_false] at hc
        rcases hc with rfl | rfl | rfl | rfl | rfl
        · exact Nat.le_add_right _ 4
        · exact Nat.le_add_right _ 2
        · exact Nat.le_add_right _ 3
        · exact Nat.le_refl _
        · exact Nat.le_add_right _ 1
      have f:=I1.fpOk (H':=H1) le (I1.hok.fresh le)
      exact f
def CV(K:⇑0)(l1 l2:Addr):It:=
  ⟨fun i H=>∃xs ys x y,cm K H l1 xs∧dS K H l2 ys∧xs[i]?=some x∧ys[i]?=some y,
   fun i H v H'=>∃p x y,v=.ref p∧H p=none∧H'=a_ H p (.tup [x,y])∧∀xs ys,cm K H l1 xs→dS K H l2 ys→xs[i]?=some x∧ys[i]?=some y,
   fun i H=>∃xs ys,cm K H l1 xs∧dS K H l2 ys∧(xs.length≤i∨ys.length≤i)⟩
def xB(z TI TO i1 i2 l1 l2:Addr)(i:Nat)(h:Heap):Prop:=IsZip h z TI TO .none∧IsPair h TI (.ref i1) (.ref i2)∧(∃a b,IsPair h TO a b)∧h.IsTupleIter i1 l1 i∧h.IsListIter i2 l2 i
theorem v_{P:Program}{w:World}{K:⇑0}{es:List Expr}{k0:Nat}{pos:Pos}{z TI TO i1 i2:Addr}(l1 l2:Addr)(n1:TO≠z)(n2:i1≠z)(n3:i2≠z)(n4:TO≠i1)(n5:TO≠i2)(n6:i1≠i2)(n7:TI≠z)(n8:TI≠TO)(n9:TI≠i1)(n10:TI≠i2):
    p5 P w K (.Tuple es k0 pos) (CV K l1 l2) [z,TI,TO,i1,i2] z (xB z TI TO i1 i2 l1 l2) where
  mem:=by simp
  obj:=fun i h st b hb=>by
    obtain⟨hz,hI,⟨a,c,hO⟩,u1,u2⟩:=st
    simp only [List.mem_cons,List.not_mem_nil,or_false] at hb
    rcases hb with rfl | rfl | rfl | rfl | rfl
    · exact⟨_,hz,fun v z=>by cases z⟩
    · exact⟨_,hI,fun v z=>by cases z⟩
    · exact⟨_,hO,fun v z=>by cases z⟩
    · obtain⟨o,e,c,d⟩:=u1
      exact⟨o,e,fun v z=>by rw [d] at z;cases z⟩
    · obtain⟨o,e,c,d⟩:=u2
      exact⟨o,e,fun v z=>by rw [d] at z;cases z⟩
  keep:=fun i h h' st k=>by
    obtain⟨hz,hI,⟨a,c,hO⟩,u1,u2⟩:=st
    exact⟨k _ ↥1 _ hz,k _ ↥1 _ hI,⟨a,c,k _ ↥1 _ hO⟩,u1.at fun o e=>k _ ↥1 o e,u2.at fun o e=>k _ ↥1 o e⟩
  item:=by
    intro X hP hw hK hc i pins s σ H E I hf st hg
    subst hP hw hK
    obtain⟨xs,ys,x,y,q1,q2,hx,hy⟩:=hg
    obtain⟨hz,hI,⟨a,b,hO⟩,u1,u2⟩:=id st
    obtain⟨its1,rv1,p1,z1⟩:=I.tuple q1
    obtain⟨its2,rv2,p2,z2⟩:=I.list q2
    obtain⟨ux,hux,rux⟩:=rv1.get hx
    obtain⟨uy,huy,ruy⟩:=rv2.get hy
    have fz:=hf z ↥1;have fO:=hf TO ↥1;have f1:=hf i1 ↥1;have f2:=hf i2 ↥1
    have D:jm z TI TO i1 i2 l1 l2:=⟨n1,n2,n3,n4,n5,n6,aJ I fz q1,aJ I fO q1,aJ I f1 q1,aJ I f2 q1,aA I fz q2,aA I fO q2,aA I f1 q2,aA I f2 q2⟩
    refine ml (xs:=its1.toArray) (ys:=its2.toArray) (iG i1 l1) (eU i2 l2) D hz hI hO u1 u2 p1 p2.isList (by simpa using hux) (by simpa using huy) fun g gz gO g1 g2 gT gs gk=>?_
    refine⟨_,rfl,wpAny_letOwnedTupleGo_zip gz fun g' gz' ge=>?_⟩
    have lt:∀b∈[z,TI,TO,i1,i2],b < ↑s:=fun b hb=>by
      simp only [List.mem_cons,List.not_mem_nil,or_false] at hb
      rcases hb with rfl | rfl | rfl | rfl | rfl
      · exact Heap.lt_size hz
      · exact Heap.lt_size hI
      · exact Heap.lt_size hO
      · obtain⟨o,e,_⟩:=u1;exact Heap.lt_size e
      · obtain⟨o,e,_⟩:=u2;exact Heap.lt_size e
    have hT:H ↑s=none:=I.hok.fresh ↥8
    have vv:aU [x,y] [ux,uy]:=.cons rux (.cons ruy .nil)
    have I1:aF X pins σ (a_ H ↑s (.tup [x,y])) {s with heap:=s.heap.push {cls:=.type "tuple",data:=.seq #[ux,uy]},toks:=s.toks}:=
      I.laid (t':=s.toks) (fun b u e=>Heap.get?_push_of_some _ e) ↥8 ⟨(by show 2≤sizeLine;decide),[ux,uy],vv,kN.new _ _⟩
    have hf1:∀b∈[z,TI,TO,i1,i2],f_ X pins (a_ H ↑s (.tup [x,y])) b:=fun b hb=>by
      obtain⟨f0,fr⟩:=hf b hb
      exact⟨by rw [ar (Nat.ne_of_lt (lt b hb))];exact f0,fr⟩
    have nzT:↑s≠z:=Nat.ne_of_gt (lt z ↥1)
    have I2:aF X pins σ (a_ H ↑s (.tup [x,y])) {s with heap:=g',toks:=s.toks}:=by
      refine I1.turnedL (t':=s.toks) hf1 fun b o nb e=>?_
      have nb':b≠z∧b≠TI∧b≠TO∧b≠i1∧b≠i2:=by simpa using nb
      refine ge.extBut _ _ nb'.1 ?_
      rcases Heap.get?_push_cases e with ⟨rfl,rfl⟩ | e
      · exact gT
      · exact gk b o nb'.1 nb'.2.2.1 nb'.2.2.2.1 nb'.2.2.2.2 e
    refine⟨.ref ↑s,_,I2,rfl,⟨_,x,y,rfl,hT,rfl,fun xs' ys' w1 w2=>?_⟩,⟨gz',ge.extBut _ _ n7 (gk _ _ n7 n8 n9 n10 hI),⟨ux,uy,ge.extBut _ _ n1 gO⟩,g1.at fun o e=>ge.extBut _ _ n2 e,g2.at fun o e=>ge.extBut _ _ n3 e⟩,fun b hb=>(hf1 b hb).1⟩
    rw [I.tuple_inj w1 q1,I.list_inj w2 q2]
    exact⟨hx,hy⟩
  done:=by
    intro X hP hw hK hc i pins s σ H E I hf st hg
    subst hP hw hK
    obtain⟨xs,ys,q1,q2,hn⟩:=hg
    obtain⟨hz,hI,⟨a,b,hO⟩,u1,u2⟩:=id st
    obtain⟨its1,rv1,p1,z1⟩:=I.tuple q1
    obtain⟨its2,rv2,p2,z2⟩:=I.list q2
    have fz:=hf z ↥1;have fO:=hf TO ↥1;have f1:=hf i1 ↥1;have f2:=hf i2 ↥1
    have D:jm z TI TO i1 i2 l1 l2:=⟨n1,n2,n3,n4,n5,n6,aJ I fz q1,aJ I fO q1,aJ I f1 q1,aJ I f2 q1,aA I fz q2,aA I fO q2,aA I f1 q2,aA I f2 q2⟩
    have e1:=rv1.length
    have e2:=rv2.length
    refine mn (xs:=its1.toArray) (ys:=its2.toArray) (I.ok.hd hc) (iG i1 l1) (eU i2 l2) D hz hI hO u1 u2 p1 p2.isList ?_ fun g gk=>⟨rfl,I.turnedL (t':=s.toks) hf fun b o nb e=>?_⟩
    · rcases hn with hn | hn
      · exact .inl ↥7
      · exact .inr ↥7
    · have nb':b≠z∧b≠TI∧b≠TO∧b≠i1∧b≠i2:=by simpa using nb
      exact gk b o nb'.1 nb'.2.2.1 nb'.2.2.2.1 nb'.2.2.2.2 e
  self:=fun A i s Q E st h=>wpAny_pyIter_zip st.1 h
theorem yB(l1 l2:Addr)(xs ys:Array Value):
    Meets (Builtin.«zip.__new__» ⟨[.type "zip",.ref l1,.ref l2],[]⟩) (fun _ R s=>s.heap.IsTuple l1 xs∧s.heap.IsList l2 ys∧
      R (.ok (.ret (.ref (↑s+4)))) {s with heap:=((((s.heap.push {cls:=.type "tuple_iterator",data:=.fields #[.ref l1,.int 0 0]}).push {cls:=.type "list_iterator",data:=.fields #[.ref l2,.int 0 0]}).push {cls:=.type "tuple",data:=.seq #[.ref ↑s,.ref (↑s+1)]}).push {cls:=.type "tuple",data:=.seq #[.none,.none]}).push {cls:=.type "zip",data:=.fields #[.none,.bool false,.bool false,.ref (↑s+2),.ref (↑s+3)]}}):=
  .of_wp fun prog w A R s h=>by
    obtain⟨hp,g,d,tk,os⟩:=s;obtain⟨t1,t2,h⟩:=h;have sz:=PySem.sub_zip
    have T1:Heap.IsTuple (Shared.heap ⟨hp,g,d,tk,os⟩) l1 xs:=t1
    have T2:Heap.IsList (Shared.heap ⟨hp.push {cls:=.type "tuple_iterator",data:=.fields #[.ref l1,.int 0 0]},g,d,tk,os⟩) l2 ys:=Heap.IsList.push t2 _
    wp_walk using wpAny_pyIter_tuple T1,wpAny_pyIter_list T2
    refine⟨_,rfl,?_⟩
    simp only [Heap.size_push]
    exact h
section
variable{prog:Program}{w:World}{A:Around}{E:Value→Shared→Prop}{s:Shared}
theorem wg{l1 l2:Addr}{xs ys:Array Value}{Q:Value→Shared→Prop}(t1:s.heap.IsTuple l1 xs)(t2:s.heap.IsList l2 ys)
    (h:∀g,xB (↑s+4) (↑s+2) (↑s+3) ↑s (↑s+1) l1 l2 0 g→(∀c o,s.heap.get? c=some o→g.get? c=some o)→Q (.ref (↑s+4)) {s with heap:=g}):
    wpAny (model prog w) A (call (.type "zip") [.ref l1,.ref l2]) Q E s:=by
  refine callType_new F.called_zip ⋯ (F.typeCall_zip_2 _ _) (F.newCall_zip_2 _ _) (fun obj=>F.args_object_init_3 obj _ _) F.entry_zip_new (yB l1 l2 xs ys) ⟨t1,t2,?_⟩
  have at5:∀(g:Heap) (o:Obj) (a:Addr),o.isFreed=false→a=g.objs.size→(g.push o).get? a=some o:=fun g o a hf e=>by rw [e];exact Heap.get?_push_size _ hf
  have g5:=at5 ((((s.heap.push {cls:=.type "tuple_iterator",data:=.fields #[.ref l1,.int 0 0]}).push {cls:=.type "list_iterator",data:=.fields #[.ref l2,.int 0 0]}).push {cls:=.type "tuple",data:=.seq #[.ref ↑s,.ref (↑s+1)]}).push {cls:=.type "tuple",data:=.seq #[.none,.none]}) {cls:=.type "zip",data:=.fields #[.none,.bool false,.bool false,.ref (↑s+2),.ref (↑s+3)]} (↑s+4) rfl (by simp only [Heap.size_push])
  have g4:=at5 (((s.heap.push {cls:=.type "tuple_iterator",data:=.fields #[.ref l1,.int 0 0]}).push {cls:=.type "list_iterator",data:=.fields #[.ref l2,.int 0 0]}).push {cls:=.type "tuple",data:=.seq #[.ref ↑s,.ref (↑s+1)]}) {cls:=.type "tuple",data:=.seq #[.none,.none]} (↑s+3) rfl (by simp only [Heap.size_push])
  have g3:=at5 ((s.heap.push {cls:=.type "tuple_iterator",data:=.fields #[.ref l1,.int 0 0]}).push {cls:=.type "list_iterator",data:=.fields #[.ref l2,.int 0 0]}) {cls:=.type "tuple",data:=.seq #[.ref ↑s,.ref (↑s+1)]} (↑s+2) rfl (by simp only [Heap.size_push])
  have g2:=at5 (s.heap.push {cls:=.type "tuple_iterator",data:=.fields #[.ref l1,.int 0 0]}) {cls:=.type "list_iterator",data:=.fields #[.ref l2,.int 0 0]} (↑s+1) rfl (by simp only [Heap.size_push])
  have g1:=at5 s.heap {cls:=.type "tuple_iterator",data:=.fields #[.ref l1,.int 0 0]} ↑s rfl rfl
  have up:∀{g:Heap} {a:Addr} {u:Obj} (o:Obj),g.get? a=some u→(g.push o).get? a=some u:=fun o e=>Heap.get?_push_of_some o e
  refine⟨⟨_,g5,rfl⟩,h _ ⟨g5,up _ (up _ g3),⟨_,_,up _ g4⟩,⟨_,up _ (up _ (up _ (up _ g1))),rfl,rfl⟩,⟨_,up _ (up _ (up _ g2)),rfl,rfl⟩⟩ fun c o x=>up _ (up _ (up _ (up _ (up _ x))))⟩
end
def DT(K:⇑0)(ta:TA):TI:=fun σ H R=>ta σ H fun vs H1=>∃a b,vs=[.ref a,.ref b]∧(∃xs,cm K H1 a xs)∧(∃ys,dS K H1 b ys)∧R (CV K a b) H1
theorem Ae{X:Cx}{K:⇑0}{es:List Expr}{k0:Nat}{tp:Pos}{a b:Expr}{ta:TA}{p pos:Pos}(hK:X.K=K)(hg:Gl X "zip")(hm:X.mg "zip"=none)(ha:PA X [a,b] ta)(hs:starEach [a,b] X.env=[(false,eval a X.env),(false,eval b X.env)]:=by rfl)(hs2:starEach [b] X.env=[(false,eval b X.env)]:=by rfl):
    PI X (.Tuple es k0 tp) (.Call (.Name "zip" p) [a,b] [] pos) (DT K ta):=by
  intro pins s σ H R I h
  subst hK
  refine Call_ (iD I hg hm lA (PyProof.Rows.callWith_type1 (bS (ha pos pins s σ H _ I h) fun us s1 ⟨vs,H1,I1,r1,q1⟩=>?_) (by rw [hs,hs2]) (by rw [hs2];rfl)))
  obtain⟨a,b,e,⟨xs,qx⟩,⟨ys,qy⟩,q⟩:=q1
  subst e
  cases r1 with
  | cons r rr=>
    cases rr with
    | cons r' rr=>
      cases rr
      cases r
      cases r'
      obtain⟨i1,v1,p1,_⟩:=I1.tuple qx
      obtain⟨i2,v2,p2,_⟩:=I1.list qy
      refine wg p1 p2.isList fun g st hk=>wpAny_pyIter_zip st.1 ?_
      have I2:aF X pins σ H1 {s1 with heap:=g,toks:=s1.toks}:=I1.kept (t':=s1.toks) fun b o e=>hk b o e
      refine⟨↑s1+4,[↑s1+4,↑s1+2,↑s1+3,↑s1,↑s1+1],_,_,H1,rfl,I2,v_ a b (show((↑s1+3:Nat)≠↑s1+4) by lia) (show((↑s1:Nat)≠↑s1+4) by lia) (show((↑s1+1:Nat)≠↑s1+4) by lia) (show((↑s1+3:Nat)≠↑s1) by lia) (show((↑s1+3:Nat)≠↑s1+1) by lia) (show((↑s1:Nat)≠↑s1+1) by lia) (show((↑s1+2:Nat)≠↑s1+4) by lia) (show((↑s1+2:Nat)≠↑s1+3) by lia) (show((↑s1+2:Nat)≠↑s1) by lia) (show((↑s1+2:Nat)≠↑s1+1) by lia),st,fun c hc=>?_,q⟩
      have le:↑s1≤c:=by
        simp only [List.mem_cons,List.not_mem_nil,or_false] at hc
        rcases hc with rfl | rfl | rfl | rfl | rfl
        · exact Nat.le_add_right _ 4
        · exact Nat.le_add_right _ 2
        · exact Nat.le_add_right _ 3
        · exact Nat.le_refl _
        · exact Nat.le_add_right _ 1
      have f:=I1.fpOk (H':=H1) le (I1.hok.fresh le)
      exact f
def CT(K:⇑0)(l1 l2:Addr):It:=
  ⟨fun i H=>∃xs ys x y,dS K H l1 xs∧dS K H l2 ys∧xs[i]?=some x∧ys[i]?=some y,
   fun i H v H'=>∃p x y,v=.ref p∧H p=none∧H'=a_ H p (.tup [x,y])∧∀xs ys,dS K H l1 xs→dS K H l2 ys→xs[i]?=some x∧ys[i]?=some y,
   fun i H=>∃xs ys,dS K H l1 xs∧dS K H l2 ys∧(xs.length≤i∨ys.length≤i)⟩
def xx(z TI TO i1 i2 l1 l2:Addr)(i:Nat)(h:Heap):Prop:=IsZip h z TI TO .none∧IsPair h TI (.ref i1) (.ref i2)∧(∃a b,IsPair h TO a b)∧h.IsListIter i1 l1 i∧h.IsListIter i2 l2 i
theorem vY{P:Program}{w:World}{K:⇑0}{es:List Expr}{k0:Nat}{pos:Pos}{z TI TO i1 i2:Addr}(l1 l2:Addr)(n1:TO≠z)(n2:i1≠z)(n3:i2≠z)(n4:TO≠i1)(n5:TO≠i2)(n6:i1≠i2)(n7:TI≠z)(n8:TI≠TO)(n9:TI≠i1)(n10:TI≠i2):
    p5 P w K (.Tuple es k0 pos) (CT K l1 l2) [z,TI,TO,i1,i2] z (xx z TI TO i1 i2 l1 l2) where
  mem:=by simp
  obj:=fun i h st b hb=>by
    obtain⟨hz,hI,⟨a,c,hO⟩,u1,u2⟩:=st
    simp only [List.mem_cons,List.not_mem_nil,or_false] at hb
    rcases hb with rfl | rfl | rfl | rfl | rfl
    · exact⟨_,hz,fun v z=>by cases z⟩
    · exact⟨_,hI,fun v z=>by cases z⟩
    · exact⟨_,hO,fun v z=>by cases z⟩
    · obtain⟨o,e,c,d⟩:=u1
      exact⟨o,e,fun v z=>by rw [d] at z;cases z⟩
    · obtain⟨o,e,c,d⟩:=u2
      exact⟨o,e,fun v z=>by rw [d] at z;cases z⟩
  keep:=fun i h h' st k=>by
    obtain⟨hz,hI,⟨a,c,hO⟩,u1,u2⟩:=st
    exact⟨k _ ↥1 _ hz,k _ ↥1 _ hI,⟨a,c,k _ ↥1 _ hO⟩,u1.at fun o e=>k _ ↥1 o e,u2.at fun o e=>k _ ↥1 o e⟩
  item:=by
    intro X hP hw hK hc i pins s σ H E I hf st hg
    subst hP hw hK
    obtain⟨xs,ys,x,y,q1,q2,hx,hy⟩:=hg
    obtain⟨hz,hI,⟨a,b,hO⟩,u1,u2⟩:=id st
    obtain⟨its1,rv1,p1,z1⟩:=I.list q1
    obtain⟨its2,rv2,p2,z2⟩:=I.list q2
    obtain⟨ux,hux,rux⟩:=rv1.get hx
    obtain⟨uy,huy,ruy⟩:=rv2.get hy
    have fz:=hf z ↥1;have fO:=hf TO ↥1;have f1:=hf i1 ↥1;have f2:=hf i2 ↥1
    have D:jm z TI TO i1 i2 l1 l2:=⟨n1,n2,n3,n4,n5,n6,aA I fz q1,aA I fO q1,aA I f1 q1,aA I f2 q1,aA I fz q2,aA I fO q2,aA I f1 q2,aA I f2 q2⟩
    refine ml (xs:=its1.toArray) (ys:=its2.toArray) (eU i1 l1) (eU i2 l2) D hz hI hO u1 u2 p1.isList p2.isList (by simpa using hux) (by simpa using huy) fun g gz gO g1 g2 gT gs gk=>?_
    refine⟨_,rfl,wpAny_letOwnedTupleGo_zip gz fun g' gz' ge=>?_⟩
    have lt:∀b∈[z,TI,TO,i1,i2],b < ↑s:=fun b hb=>by
      simp only [List.mem_cons,List.not_mem_nil,or_false] at hb
      rcases hb with rfl | rfl | rfl | rfl | rfl
      · exact Heap.lt_size hz
      · exact Heap.lt_size hI
      · exact Heap.lt_size hO
      · obtain⟨o,e,_⟩:=u1;exact Heap.lt_size e
      · obtain⟨o,e,_⟩:=u2;exact Heap.lt_size e
    have hT:H ↑s=none:=I.hok.fresh ↥8
    have vv:aU [x,y] [ux,uy]:=.cons rux (.cons ruy .nil)
    have I1:aF X pins σ (a_ H ↑s (.tup [x,y])) {s with heap:=s.heap.push {cls:=.type "tuple",data:=.seq #[ux,uy]},toks:=s.toks}:=
      I.laid (t':=s.toks) (fun b u e=>Heap.get?_push_of_some _ e) ↥8 ⟨(by show 2≤sizeLine;decide),[ux,uy],vv,kN.new _ _⟩
    have hf1:∀b∈[z,TI,TO,i1,i2],f_ X pins (a_ H ↑s (.tup [x,y])) b:=fun b hb=>by
      obtain⟨f0,fr⟩:=hf b hb
      exact⟨by rw [ar (Nat.ne_of_lt (lt b hb))];exact f0,fr⟩
    have nzT:↑s≠z:=Nat.ne_of_gt (lt z ↥1)
    have I2:aF X pins σ (a_ H ↑s (.tup [x,y])) {s with heap:=g',toks:=s.toks}:=by
      refine I1.turnedL (t':=s.toks) hf1 fun b o nb e=>?_
      have nb':b≠z∧b≠TI∧b≠TO∧b≠i1∧b≠i2:=by simpa using nb
      refine ge.extBut _ _ nb'.1 ?_
      rcases Heap.get?_push_cases e with ⟨rfl,rfl⟩ | e
      · exact gT
      · exact gk b o nb'.1 nb'.2.2.1 nb'.2.2.2.1 nb'.2.2.2.2 e
    refine⟨.ref ↑s,_,I2,rfl,⟨_,x,y,rfl,hT,rfl,fun xs' ys' w1 w2=>?_⟩,⟨gz',ge.extBut _ _ n7 (gk _ _ n7 n8 n9 n10 hI),⟨ux,uy,ge.extBut _ _ n1 gO⟩,g1.at fun o e=>ge.extBut _ _ n2 e,g2.at fun o e=>ge.extBut _ _ n3 e⟩,fun b hb=>(hf1 b hb).1⟩
    rw [I.list_inj w1 q1,I.list_inj w2 q2]
    exact⟨hx,hy⟩
  done:=by
    intro X hP hw hK hc i pins s σ H E I hf st hg
    subst hP hw hK
    obtain⟨xs,ys,q1,q2,hn⟩:=hg
    obtain⟨hz,hI,⟨a,b,hO⟩,u1,u2⟩:=id st
    obtain⟨its1,rv1,p1,z1⟩:=I.list q1
    obtain⟨its2,rv2,p2,z2⟩:=I.list q2
    have fz:=hf z ↥1;have fO:=hf TO ↥1;have f1:=hf i1 ↥1;have f2:=hf i2 ↥1
    have D:jm z TI TO i1 i2 l1 l2:=⟨n1,n2,n3,n4,n5,n6,aA I fz q1,aA I fO q1,aA I f1 q1,aA I f2 q1,aA I fz q2,aA I fO q2,aA I f1 q2,aA I f2 q2⟩
    have e1:=rv1.length
    have e2:=rv2.length
    refine mn (xs:=its1.toArray) (ys:=its2.toArray) (I.ok.hd hc) (eU i1 l1) (eU i2 l2) D hz hI hO u1 u2 p1.isList p2.isList ?_ fun g gk=>⟨rfl,I.turnedL (t':=s.toks) hf fun b o nb e=>?_⟩
    · rcases hn with hn | hn
      · exact .inl ↥7
      · exact .inr ↥7
    · have nb':b≠z∧b≠TI∧b≠TO∧b≠i1∧b≠i2:=by simpa using nb
      exact gk b o nb'.1 nb'.2.2.1 nb'.2.2.2.1 nb'.2.2.2.2 e
  self:=fun A i s Q E st h=>wpAny_pyIter_zip st.1 h
theorem yz(l1 l2:Addr)(xs ys:Array Value):
    Meets (Builtin.«zip.__new__» ⟨[.type "zip",.ref l1,.ref l2],[]⟩) (fun _ R s=>s.heap.IsList l1 xs∧s.heap.IsList l2 ys∧
      R (.ok (.ret (.ref (↑s+4)))) {s with heap:=((((s.heap.push {cls:=.type "list_iterator",data:=.fields #[.ref l1,.int 0 0]}).push {cls:=.type "list_iterator",data:=.fields #[.ref l2,.int 0 0]}).push {cls:=.type "tuple",data:=.seq #[.ref ↑s,.ref (↑s+1)]}).push {cls:=.type "tuple",data:=.seq #[.none,.none]}).push {cls:=.type "zip",data:=.fields #[.none,.bool false,.bool false,.ref (↑s+2),.ref (↑s+3)]}}):=
  .of_wp fun prog w A R s h=>by
    obtain⟨hp,g,d,tk,os⟩:=s;obtain⟨t1,t2,h⟩:=h;have sz:=PySem.sub_zip
    have T1:Heap.IsList (Shared.heap ⟨hp,g,d,tk,os⟩) l1 xs:=t1
    have T2:Heap.IsList (Shared.heap ⟨hp.push {cls:=.type "list_iterator",data:=.fields #[.ref l1,.int 0 0]},g,d,tk,os⟩) l2 ys:=Heap.IsList.push t2 _
    wp_walk using wpAny_pyIter_list T1,wpAny_pyIter_list T2
    refine⟨_,rfl,?_⟩
    simp only [Heap.size_push]
    exact h
section
variable{prog:Program}{w:World}{A:Around}{E:Value→Shared→Prop}{s:Shared}
theorem we{l1 l2:Addr}{xs ys:Array Value}{Q:Value→Shared→Prop}(t1:s.heap.IsList l1 xs)(t2:s.heap.IsList l2 ys)
    (h:∀g,xx (↑s+4) (↑s+2) (↑s+3) ↑s (↑s+1) l1 l2 0 g→(∀c o,s.heap.get? c=some o→g.get? c=some o)→Q (.ref (↑s+4)) {s with heap:=g}):
    wpAny (model prog w) A (call (.type "zip") [.ref l1,.ref l2]) Q E s:=by
  refine callType_new F.called_zip ⋯ (F.typeCall_zip_2 _ _) (F.newCall_zip_2 _ _) (fun obj=>F.args_object_init_3 obj _ _) F.entry_zip_new (yz l1 l2 xs ys) ⟨t1,t2,?_⟩
  have at5:∀(g:Heap) (o:Obj) (a:Addr),o.isFreed=false→a=g.objs.size→(g.push o).get? a=some o:=fun g o a hf e=>by rw [e];exact Heap.get?_push_size _ hf
  have g5:=at5 ((((s.heap.push {cls:=.type "list_iterator",data:=.fields #[.ref l1,.int 0 0]}).push {cls:=.type "list_iterator",data:=.fields #[.ref l2,.int 0 0]}).push {cls:=.type "tuple",data:=.seq #[.ref ↑s,.ref (↑s+1)]}).push {cls:=.type "tuple",data:=.seq #[.none,.none]}) {cls:=.type "zip",data:=.fields #[.none,.bool false,.bool false,.ref (↑s+2),.ref (↑s+3)]} (↑s+4) rfl (by simp only [Heap.size_push])
  have g4:=at5 (((s.heap.push {cls:=.type "list_iterator",data:=.fields #[.ref l1,.int 0 0]}).push {cls:=.type "list_iterator",data:=.fields #[.ref l2,.int 0 0]}).push {cls:=.type "tuple",data:=.seq #[.ref ↑s,.ref (↑s+1)]}) {cls:=.type "tuple",data:=.seq #[.none,.none]} (↑s+3) rfl (by simp only [Heap.size_push])
  have g3:=at5 ((s.heap.push {cls:=.type "list_iterator",data:=.fields #[.ref l1,.int 0 0]}).push {cls:=.type "list_iterator",data:=.fields #[.ref l2,.int 0 0]}) {cls:=.type "tuple",data:=.seq #[.ref ↑s,.ref (↑s+1)]} (↑s+2) rfl (by simp only [Heap.size_push])
  have g2:=at5 (s.heap.push {cls:=.type "list_iterator",data:=.fields #[.ref l1,.int 0 0]}) {cls:=.type "list_iterator",data:=.fields #[.ref l2,.int 0 0]} (↑s+1) rfl (by simp only [Heap.size_push])
  have g1:=at5 s.heap {cls:=.type "list_iterator",data:=.fields #[.ref l1,.int 0 0]} ↑s rfl rfl
  have up:∀{g:Heap} {a:Addr} {u:Obj} (o:Obj),g.get? a=some u→(g.push o).get? a=some u:=fun o e=>Heap.get?_push_of_some o e
  refine⟨⟨_,g5,rfl⟩,h _ ⟨g5,up _ (up _ g3),⟨_,_,up _ g4⟩,⟨_,up _ (up _ (up _ (up _ g1))),rfl,rfl⟩,⟨_,up _ (up _ (up _ g2)),rfl,rfl⟩⟩ fun c o x=>up _ (up _ (up _ (up _ (up _ x))))⟩
end
def DR(K:⇑0)(ta:TA):TI:=fun σ H R=>ta σ H fun vs H1=>∃a b,vs=[.ref a,.ref b]∧(∃xs,dS K H1 a xs)∧(∃ys,dS K H1 b ys)∧R (CT K a b) H1
theorem Ac{X:Cx}{K:⇑0}{es:List Expr}{k0:Nat}{tp:Pos}{a b:Expr}{ta:TA}{p pos:Pos}(hK:X.K=K)(hg:Gl X "zip")(hm:X.mg "zip"=none)(ha:PA X [a,b] ta)(hs:starEach [a,b] X.env=[(false,eval a X.env),(false,eval b X.env)]:=by rfl)(hs2:starEach [b] X.env=[(false,eval b X.env)]:=by rfl):
    PI X (.Tuple es k0 tp) (.Call (.Name "zip" p) [a,b] [] pos) (DR K ta):=by
  intro pins s σ H R I h
  subst hK
  refine Call_ (iD I hg hm lA (PyProof.Rows.callWith_type1 (bS (ha pos pins s σ H _ I h) fun us s1 ⟨vs,H1,I1,r1,q1⟩=>?_) (by rw [hs,hs2]) (by rw [hs2];rfl)))
  obtain⟨a,b,e,⟨xs,qx⟩,⟨ys,qy⟩,q⟩:=q1
  subst e
  cases r1 with
  | cons r rr=>
    cases rr with
    | cons r' rr=>
      cases rr
      cases r
      cases r'
      obtain⟨i1,v1,p1,_⟩:=I1.list qx
      obtain⟨i2,v2,p2,_⟩:=I1.list qy
      refine we p1.isList p2.isList fun g st hk=>wpAny_pyIter_zip st.1 ?_
      have I2:aF X pins σ H1 {s1 with heap:=g,toks:=s1.toks}:=I1.kept (t':=s1.toks) fun b o e=>hk b o e
      refine⟨↑s1+4,[↑s1+4,↑s1+2,↑s1+3,↑s1,↑s1+1],_,_,H1,rfl,I2,vY a b (show((↑s1+3:Nat)≠↑s1+4) by lia) (show((↑s1:Nat)≠↑s1+4) by lia) (show((↑s1+1:Nat)≠↑s1+4) by lia) (show((↑s1+3:Nat)≠↑s1) by lia) (show((↑s1+3:Nat)≠↑s1+1) by lia) (show((↑s1:Nat)≠↑s1+1) by lia) (show((↑s1+2:Nat)≠↑s1+4) by lia) (show((↑s1+2:Nat)≠↑s1+3) by lia) (show((↑s1+2:Nat)≠↑s1) by lia) (show((↑s1+2:Nat)≠↑s1+1) by lia),st,fun c hc=>?_,q⟩
      have le:↑s1≤c:=by
        simp only [List.mem_cons,List.not_mem_nil,or_false] at hc
        rcases hc with rfl | rfl | rfl | rfl | rfl
        · exact Nat.le_add_right _ 4
        · exact Nat.le_add_right _ 2
        · exact Nat.le_add_right _ 3
        · exact Nat.le_refl _
        · exact Nat.le_add_right _ 1
      have f:=I1.fpOk (H':=H1) le (I1.hok.fresh le)
      exact f
theorem vE{X:Cx}{ix:Nat}{nm:Str}{posn poss:Pos}{elt iter tg:Expr}{ifs:List Expr}{scope:Scope}{pos:Pos}{wi:TI}{g:TG}{tc:TT}{te:TE}(sc0:Scope)(N0:List Str)(cp:List (Nat × Str))(tgN:List Str)
    (hc:X.calm=true)(hsc:X.env.scope=sc0)(hN0:X.N=N0)(hi:PI X tg iter wi)
    (hg:∀C s0 H0 fp,PG (av X scope cp tgN C s0 H0 fp) tg g)
    (ht:∀C s0 H0 fp,uO (av X scope cp tgN C s0 H0 fp) ifs tc)
    (he:∀C s0 H0 fp,PE (av X scope cp tgN C s0 H0 fp) elt te)
    (hk:scope.kind=.function)(hcell:∀y∈scope.names,y.2≠.cell)(hnames:∀y∈scope.names,y.2=.local→scope.names.lookup y.1=some .local)
    (hfr:∀y∈scope.names,y.2=.free→scope.names.lookup y.1=some .free∧sc0.names.lookup y.1=some .cell)
    (hcp:∀p∈cp,N0[p.1]?=some p.2)(hcq:∀p∈cp,sc0.names.lookup p.2=some .cell∧scope.names.lookup p.2=some .free)
    (hNd:X.N.Nodup)(hix:X.N[ix]?=some nm)(hlc:X.env.scope.names.lookup nm=some .local)(hsw:swapsWith (.ListComp elt [⟨tg,iter,ifs,0⟩] scope pos) (some (.Name nm posn)) poss.line X.env=pure true)
    (hs:∀x,foldedSetIterable iter X.env x=pure x:=by intro _;rfl):
    PS X (.Assign [.Name nm posn] (.ListComp elt [⟨tg,iter,ifs,0⟩] scope pos) poss) (Cs (xl cp tgN.length wi g tc te) (wG ix)):=by
  intro pins s σ H D0 I h
  let Q:VK:=fun x H1=>D0.nx (σ.set ix (some x)) H1
  have h:xl cp tgN.length wi g tc te σ H Q:=h
  have hkind:∀x,X.env.kindOf x=sc0.names.lookup x:=fun x=>by unfold Env.kindOf;rw [hsc]
  have hfree:∀y∈scope.names,y.2=.free→∃c,X.env.cells.lookup y.1=some c:=fun y hy e=>I.ok.has y.1 (.inl (by rw [hkind];exact(hfr y hy e).2))
  rw [exec_Assign_Name_used _ _ _ _ hsw]
  refine wpAny_bind (wpAny_standAt (wpAny_bind ?_))
  unfold evalThenUse
  refine wpAny_bind ?_
  refine wpAny_comprehension_free (use:=some (assign (.Name nm posn) X.env)) rfl hs (kS hfree) hk hnames (wpAny_mono (hi pins s σ H _ I h.go) (fun xv s₁ h₁=>wpAny_mono h₁ (fun itv s₂ h₂=>?_) fun _ _ e=>e) fun _ _ e=>e)
  obtain⟨it,fp,tn,J,H2,rfl,I2,T,st2,f2,hq⟩:=h₂
  refine wpAny_newObj_type ?_
  have hlF:H2 ↑s₂=none:=I2.hok.fresh ↥8
  have I3:aF X pins σ (a_ H2 ↑s₂ (.lst [])) {s₂ with heap:=s₂.heap.push {cls:=.type "list",data:=.seq ([]:List Value).toArray}}:=I2.lnew (t':=s₂.toks) .nil (Nat.zero_le _)
  obtain⟨W,⟨m0,w0⟩,turn⟩:=hq _ hlF
  have f3:∀b∈fp,f_ X pins (a_ H2 ↑s₂ (.lst [])) b:=fun b hb=>by
    obtain⟨f0,fr⟩:=f2 b hb
    obtain⟨o,ho,_⟩:=T.obj _ _ st2 b hb
    exact⟨by rw [ar (Nat.ne_of_lt (Heap.lt_size ho))];exact f0,fr⟩
  have st3:tn 0 (s₂.heap.push {cls:=.type "list",data:=.seq ([]:List Value).toArray}):=T.keep _ _ _ st2 fun b _ o e=>Heap.get?_push_of_some _ e
  generalize hD:↑s₂=D at*
  generalize hs3:({s₂ with heap:=s₂.heap.push {cls:=.type "list",data:=.seq ([]:List Value).toArray}}:Shared)=s₃ at*
  have hst3:tn 0 s₃.heap:=by rw [←hs3];exact st3
  refine wpAny_newFunctionEnv hcell (by intro y hy;simp at hy) (fun h₁ hns₁ hsb₁=>?_) hk
  generalize hC:↑s₃=C at*
  have old:∀b o,s₃.heap.get? b=some o→h₁.get? b=some o:=fun b o e=>hsb₁.extBut b o (by rw [←hC];exact Nat.ne_of_lt (Heap.lt_size e)) (Heap.get?_push_of_some _ e)
  have nC:∀b o,s₃.heap.get? b=some o→b≠C:=fun b o e=>by rw [←hC];exact Nat.ne_of_lt (Heap.lt_size e)
  have hHC:(a_ H2 D (.lst [])) C=none:=I3.hok.fresh (by rw [hC];exact Nat.le_refl _)
  have clS:∀x c,(gG X.env scope.names []).lookup x=some c→X.env.cells.lookup x=some c:=fun x c e=>i8 _ _ x c hfree (fun _ _ z=>by simp at z) e
  have clH:∀x,(∃y∈scope.names,y.1=x∧y.2=.free)→∃c,(gG X.env scope.names []).lookup x=some c:=fun x e=>lD _ _ x (.inl e)
  have ok':(av X scope cp tgN C s₃ (a_ H2 D (.lst [])) fp).Ok:=by
    refine⟨I.ok.mod,hk,I.ok.glob,I.ok.blt,by rw [←hC];exact Nat.le_refl _,fun x y c e1 e2=>I.ok.inj x y c (clS _ _ e1) (clS _ _ e2),fun x e=>clH x (cz hcell e),fun x c e1 e2=>?_,I.ok.hd,I.ok.frames,.inl rfl,fun b hb=>?_,fun b o e=>I3.bs b o e,?_,fun b o e hb=>?_,fun b hb z=>?_,I3.stack,fun b hb=>I3.stkFree b hb⟩
    · exfalso
      have e1':scope.names.lookup x=some .local:=by simpa [av] using e1
      have e2':=clS x c e2
      obtain⟨c',hc'⟩:∃y∈scope.names,y.1=x∧y.2=.free:=by
        by_cases q:∃y∈scope.names,y.1=x∧y.2=.free
        · exact q
        · exfalso
          have:∀(names:List (Str × NameKind)) (cs:List (Str × Addr)),(¬∃y∈names,y.1=x∧y.2=.free)→cs.lookup x=none→(gG X.env names cs).lookup x=none:=by
            intro names
            induction names with
            | nil=>intro cs _ h;exact h
            | cons y r ih=>
              intro cs hn hcs
              obtain⟨n,k⟩:=y
              refine ih _ (fun⟨y,hy,z⟩=>hn ⟨y,List.mem_cons_of_mem _ hy,z⟩) ?_
              by_cases hk:(k==NameKind.free)=true
              · rw [if_pos hk,List.lookup_cons]
                cases hx:x==n with
                | true=>exact absurd ⟨(n,k),List.mem_cons_self,(by simpa using hx:x=n).symm,by simpa using hk⟩ hn
                | false=>exact hcs
              · rw [if_neg hk];exact hcs
          have z:=this scope.names [] q rfl
          have e2'':(gG X.env scope.names []).lookup x=some c:=e2
          rw [z] at e2'';cases e2''
      have z:=(hfr c' hc'.1 hc'.2.2).1
      rw [hc'.2.1,e1'] at z;cases z
    · obtain⟨f0,f1,f4,f5,f6,f7⟩:=f3 b hb
      obtain⟨o,ho,_⟩:=T.obj _ _ hst3 b hb
      exact⟨nC b o ho,fun x c e=>f6 x c (clS x c e)⟩
    · exact Nat.le_trans I.ok.bsz I3.sz
    · obtain⟨f0,f1,f4,f5,f6,f7⟩:=f3 b hb
      rcases f5 with z | z
      · exact I.ok.noex b o e z
      · have:=(I.ok.bs b o e).1
        exact absurd (Nat.lt_of_lt_of_le (Heap.lt_size this) z) (Nat.lt_irrefl _)
    · obtain⟨f0,f1,f4,f5,f6,f7⟩:=f3 b hb
      rcases LJ (I3.stkSub b z) with z | z
      · exact f1 z
      · exact f4 z
  have I4:aF (av X scope cp tgN C s₃ (a_ H2 D (.lst [])) fp) [] (dU cp tgN.length σ) (a_ H2 D (.lst [])) {s₃ with heap:=h₁,toks:=s₃.toks+([]:List (Str × Value)).length}:=by
    refine⟨ok',rfl,I3.bare,Un.kept old,⟨_,hns₁,fun i x v e1 e2 e3=>?_⟩,fun x c e=>?_,hHC,fun x c e=>I3.freeC x c (clS x c e),fun p hp=>by simp [av] at hp,I3.hok.kept old,by simp [dU,av]⟩
    · have hlt:i < cp.length:=by
        by_cases q:i < cp.length
        · exact q
        · exfalso
          unfold dU at e2
          rw [List.getElem?_append_right ↥7] at e2
          rw [List.getElem?_replicate] at e2
          split at e2<;>cases e2
      have e1':(cp.map (·.2))[i]?=some x:=by
        have e1'':(cp.map (·.2)++tgN)[i]?=some x:=e1
        rwa [List.getElem?_append_left (by simp;exact hlt)] at e1''
      have e2':(cp.map (fun p=>(σ[p.1]?).join))[i]?=some (some v):=by
        unfold dU at e2
        rwa [List.getElem?_append_left (by simp;exact hlt)] at e2
      rw [List.getElem?_map,List.getElem?_eq_getElem hlt] at e1' e2'
      have ex:(cp[i]).2=x:=by simpa using e1'
      have ev:(σ[(cp[i]).1]?).join=some v:=by simpa using e2'
      have ev':σ[(cp[i]).1]?=some (some v):=by
        cases q:σ[(cp[i]).1]? with
        | none=>rw [q] at ev;cases ev
        | some z=>rw [q] at ev;simp only [Option.join_some] at ev;rw [ev]
      have hN:=hcp cp[i] (List.getElem_mem hlt)
      rw [←hN0] at hN
      obtain⟨hcl,hcf⟩:=hcq cp[i] (List.getElem_mem hlt)
      rw [ex] at hN hcl hcf
      obtain⟨m,hn,hl⟩:=I3.loc
      obtain⟨u,r,l⟩:=hl _ x v hN ev' (.inr (.inl (by rw [hsc];exact hcl)))
      refine⟨u,r,.inr ?_⟩
      rcases l with ⟨k1,_⟩ | ⟨k1,c,hcc,o,ho,hd⟩
      · rw [hkind,hcl] at k1;cases k1
      · have e3':(relabel scope X.env).names.lookup x=some .local∨(relabel scope X.env).names.lookup x=some .cell∨(relabel scope X.env).names.lookup x=some .free:=e3
        have nl:(relabel scope X.env).names.lookup x=some .cell∨(relabel scope X.env).names.lookup x=some .free:=by
          rcases e3' with z | z | z
          · exact absurd z (dw hcf)
          · exact .inl z
          · exact .inr z
        obtain⟨c',hc'⟩:=clH x (cz hcell nl)
        have:=clS x c' hc'
        rw [hcc] at this;cases this
        exact⟨nl,c,hc',o,old c o ho,hd⟩
    · obtain⟨v,o,ho,hd⟩:=I3.cell x c (clS x c e)
      exact⟨v,o,old c o ho,hd⟩
  have hst4:tn 0 h₁:=T.keep _ _ _ hst3 fun b _ o e=>old b o e
  have loop:codeAny (model X.prog X.w) X.A (.compLoop (.ListComp elt [⟨tg,iter,ifs,0⟩] scope pos) 0 (.ref it) (.ref D) (compEnvC scope (gG X.env scope.names []) C X.env))
      (compPost (model X.prog X.w) X.A X.xe (some (assign (.Name nm posn) X.env)) (fun _ s'=>wpAny (model X.prog X.w) X.A (pure ()) (fun _ s''=>wpAny (model X.prog X.w) X.A (pure Flow.next) (SP X pins D0) X.xe s'') X.xe s') (.ref D) C) {s₃ with heap:=h₁,toks:=s₃.toks+([]:List (Str × Value)).length}:=by
    refine lF (fun n s'=>∃i σ' H',aF (av X scope cp tgN C s₃ (a_ H2 D (.lst [])) fp) [] σ' H' s'∧tn i s'.heap∧(∀b∈fp,H' b=none)∧W i n σ' H') ?_ (n0:=m0) ⟨0,_,_,I4,hst4,fun b hb=>(f3 b hb).1,w0⟩
    rintro n s5 ⟨i,σ5,H5,I5,st5,fr5,w5⟩
    have stat:∀{H':Hp},(∀b∈fp,H' b=none)→∀b∈fp,f_ (av X scope cp tgN C s₃ (a_ H2 D (.lst [])) fp) [] H' b:=fun hn b hb=>
      ⟨hn b hb,(ok'.exf b hb).1,ok'.exfs b hb,.inl hb,(ok'.exf b hb).2,fun p hp=>by simp [av] at hp⟩
    rcases turn i n σ5 H5 w5 with ⟨stop,qn⟩ | ⟨go,N,hN,step⟩
    · refine bS (T.done (av X scope cp tgN C s₃ (a_ H2 D (.lst [])) fp) rfl rfl rfl hc i [] s5 σ5 H5 (fun _ _=>False) I5 (stat fr5) st5 stop) fun r s6 ⟨hr,I6⟩=>?_
      subst hr
      refine⟨fun _=>?_,fun v z=>by cases z⟩
      obtain⟨m,hn,_⟩:=I6.loc
      have I7:aF X pins σ H5 s6:=by
        have key:∀h':Heap,Heap.SameBut C s6.heap h'→aF X pins σ H5 {s6 with heap:=h'}:=fun h' sb=>by
          have ub:=I6.base
          have kp:∀b u,b≠C→s6.heap.get? b=some u→h'.get? b=some u:=fun b u ne e=>sb.extBut b u ne e
          have nit:∀b u,H5 b=some u→b≠C:=fun b u e z=>by
            have:=I6.free
            rw [z] at e
            rw [show H5 C=none from this] at e;cases e
          refine I3.call' (s':={s6 with heap:=h'}) (ch:=fp) I6.os ⟨fun b o e n hb hx=>kp b o (nC b o e) (ub.keep b o e n hb hx),fun b o e n hb hx=>?_,ub.free,fun b o e hx=>?_,ub.tups,ub.frzs,ub.tbls⟩ (fun b u e=>?_) I6.bare (fun b hb=>?_)
          · obtain⟨sl,q⟩:=ub.slot b o e n hb hx
            exact⟨sl,kp b _ (nC b o e) q⟩
          · obtain⟨o',q⟩:=ub.there b o e hx
            exact⟨o',kp b _ (nC b o e) q⟩
          · refine(I6.hok b u e).stay (fun c v hc q=>kp c v ?_ q) (fun _ q=>q) fun _ _ q=>q
            rcases hc with z | z
            · rw [z];exact nit b u e
            · exact nit c _ z
          · obtain⟨f0,f1,f4,f5,f6,f7⟩:=f3 b hb
            exact⟨f5,f1,f6,f7⟩
        exact key s6.heap ⟨rfl,fun _ _=>rfl⟩
      have fC:f_ X pins H5 C:=I3.fpOk (by rw [hC];exact Nat.le_refl _) I6.free
      show wpAny (model X.prog X.w) X.A (assign (.Name nm posn) X.env (.ref D)) _ X.xe s6
      refine wpAny_assign_Name (mR (v:=.ref D) I7 hNd hix (Or.inl hlc) rfl (fun s' I' hsb=>?_) (Or.inr hlc))
      obtain⟨a,sb,ha⟩:=hsb
      have nCa:C≠a:=by
        rcases ha with z | z
        · rw [z];exact fC.2.1
        · exact fun e=>fC.2.2.2.2.1 _ _ z e.symm
      obtain⟨oN,esN,epN,hoN,rN⟩:=hn
      refine⟨m,⟨oN,esN,epN,(sb.2 C nCa).trans hoN,rN⟩,fun h' sb'=>wpAny_pure (wpAny_pure ?_)⟩
      have I8:aF X pins (σ.set ix (some (.ref D))) H5 {s' with heap:=h',toks:=s'.toks}:=I'.turnedL (t':=s'.toks) (fp:=[C]) (fun b hb=>by rw [List.mem_singleton.mp hb];exact fC) fun b o nb e=>sb'.extBut b o (by simpa using nb) e
      exact⟨_,H5,I8,qn⟩
    · refine bS (T.item (av X scope cp tgN C s₃ (a_ H2 D (.lst [])) fp) rfl rfl rfl hc i [] s5 σ5 H5 (fun _ _=>False) I5 (stat fr5) st5 go) fun r s6 ⟨u,hr,h6⟩=>?_
      subst hr
      refine⟨fun z=>(by cases z),fun v z=>?_⟩
      cases z
      refine bS h6 fun _ s7 ⟨x,H7,I7,r7,y7,st7,fr7⟩=>?_
      have I7':=I7.pinned (stat fr7) (T.obj _ _ st7)
      have again:∀{σ8:L2.St} {H8:Hp} {s8:Shared},aF (av X scope cp tgN C s₃ (a_ H2 D (.lst [])) fp) ([]++jS fp s7.heap) σ8 H8 s8→N σ8 H8→∃m,m < n∧∃i σ' H',aF (av X scope cp tgN C s₃ (a_ H2 D (.lst [])) fp) [] σ' H' s8∧tn i s8.heap∧(∀b∈fp,H' b=none)∧W i m σ' H':=fun{σ8 H8 s8} I8 n8=>by
        obtain⟨m',hm,w8⟩:=hN σ8 H8 n8
        refine⟨m',hm,i+1,σ8,H8,I8.unpinned,T.keep _ _ _ st7 fun b hb o e=>(I8.pin (b,o) (List.mem_append_right _ (List.mem_append_right _ (bW hb e)))).1,fun b hb=>?_,w8⟩
        obtain⟨o,e,d⟩:=T.obj _ _ st7 b hb
        exact(I8.pin (b,o) (List.mem_append_right _ (List.mem_append_right _ (bW hb e)))).2.1
      refine bS (hg C s₃ (a_ H2 D (.lst [])) fp _ s7 σ5 H7 x u _ I7' r7 (step x H7 y7)) fun _ s8 ⟨σ8,H8,I8,q8⟩=>?_
      refine bS (ht C s₃ (a_ H2 D (.lst [])) fp _ s8 σ8 H8 _ I8 q8) fun ok s9 ⟨H9,I9,q9⟩=>?_
      cases ok with
      | false=>
        rw [if_neg Bool.false_ne_true] at q9 ⊢
        exact again I9 q9
      | true=>
        rw [if_pos rfl] at q9 ⊢
        refine bS (he C s₃ (a_ H2 D (.lst [])) fp _ s9 σ8 H9 _ I9 q9) fun v s10 ⟨xv,H10,I10,r10,ys,hl,hz,n10⟩=>?_
        refine bS (iS _ s10 σ8 H10 (.ref D) [xv] (.ref D) [v] (fun _ H=>N σ8 H) I10 rfl (.cons r10 .nil) ⟨D,ys,xv,rfl,rfl,hl,hz,n10⟩) fun _ s11 ⟨_,H11,I11,_,q11⟩=>?_
        exact again I11 q11
  exact codeAny_compStart_list loop (T.self X.A 0 _ _ _ hst4 loop)
inductive yH where
  | vi (k:Int)
  | vb (x:Bool)
  | vn
def yH.toV:yH→V
  | .vi k=>.int k
  | .vb x=>.bl x
  | .vn=>.non
def yH.toD:yH→PyData
  | .vi k=>.int k
  | .vb x=>.bool x
  | .vn=>.none
mutual
def DA(K:⇑0)(F:Hp):PyData→V→Prop
  | .none,v=>v=.non
  | .bool b,v=>v=.bl b
  | .int i,v=>v=.int i
  | .str x,v=>v=.str x
  | .tuple ds,v=>∃a xs,v=.ref a∧cm K F a xs∧aR K F ds xs
  | .list ds,v=>∃a xs,v=.ref a∧dS K F a xs∧aR K F ds xs
  | .dict kvs,v=>∃(a:Addr) (m:List (Int × yH)),v=.ref a∧F a=some (.dK (m.map fun p=>(Sum.inl p.1,p.2.toV)))∧kvs=m.map fun p=>(PyData.int p.1,p.2.toD)
def aR(K:⇑0)(F:Hp):List PyData→List V→Prop
  | [],xs=>xs=[]
  | d::ds,xs=>∃x r,xs=x::r∧DA K F d x∧aR K F ds r
end
mutual
theorem DA.mono{K:⇑0}{F F':Hp}(h:aC F F'):∀{d:PyData} {v:V},DA K F d v→DA K F' d v
  | .none,_,q=>by simp only [DA] at q ⊢;exact q
  | .bool b,_,q=>by simp only [DA] at q ⊢;exact q
  | .int i,_,q=>by simp only [DA] at q ⊢;exact q
  | .str x,_,q=>by simp only [DA] at q ⊢;exact q
  | .tuple ds,_,q=>by
    simp only [DA] at q ⊢
    obtain⟨a,xs,e,s,r⟩:=q
    exact⟨a,xs,e,h.tup s,aR.mono h r⟩
  | .list ds,_,q=>by
    simp only [DA] at q ⊢
    obtain⟨a,xs,e,s,r⟩:=q
    exact⟨a,xs,e,h.seq s,aR.mono h r⟩
  | .dict _,_,q=>by
    simp only [DA] at q ⊢
    obtain⟨a,m,e,s,k⟩:=q
    exact⟨a,m,e,h _ _ s,k⟩
theorem aR.mono{K:⇑0}{F F':Hp}(h:aC F F'):∀{ds:List PyData} {xs:List V},aR K F ds xs→aR K F' ds xs
  | [],_,q=>by simp only [aR] at q ⊢;exact q
  | d::ds,_,q=>by
    simp only [aR] at q ⊢
    obtain⟨x,r,e,a,b⟩:=q
    exact⟨x,r,e,DA.mono h a,aR.mono h b⟩
end
section
variable{K:⇑0}{F:Hp}
theorem aR.len:∀{ds:List PyData} {xs:List V},aR K F ds xs→ds.length=xs.length
  | [],_,q=>by simp only [aR] at q;subst q;rfl
  | d::ds,_,q=>by
    simp only [aR] at q
    obtain⟨x,r,e,a,b⟩:=q
    subst e
    simp [aR.len b]
theorem aR.get:∀{ds:List PyData} {xs:List V} {i:Nat} {d:PyData},aR K F ds xs→ds[i]?=some d→∃v,xs[i]?=some v∧DA K F d v
  | [],_,_,_,_,h=>by simp at h
  | d::ds,_,i,d',q,h=>by
    simp only [aR] at q
    obtain⟨x,r,e,a,b⟩:=q
    subst e
    cases i with
    | zero=>simp at h;subst h;exact⟨x,rfl,a⟩
    | succ i=>
      obtain⟨v,h1,h2⟩:=aR.get (i:=i) b (by simpa using h)
      exact⟨v,by simpa using h1,h2⟩
theorem aR.append:∀{ds es:List PyData} {xs ys:List V},aR K F ds xs→aR K F es ys→aR K F (ds++es) (xs++ys)
  | [],_,_,_,q,s=>by simp only [aR] at q;subst q;simpa using s
  | d::ds,es,_,ys,q,s=>by
    simp only [aR] at q
    obtain⟨x,r,e,a,b⟩:=q
    subst e
    simp only [List.cons_append,aR]
    exact⟨x,_,rfl,a,aR.append b s⟩
theorem aR.one{d:PyData}{v:V}(h:DA K F d v):aR K F [d] [v]:=by simp only [aR];exact⟨_,_,rfl,h,rfl⟩
theorem aR.nil:aR K F [] []:=by simp only [aR]
theorem aR.cons{d:PyData}{v:V}{ds:List PyData}{vs:List V}(h:DA K F d v)(r:aR K F ds vs):aR K F (d::ds) (v::vs):=by simp only [aR];exact⟨_,_,rfl,h,r⟩
theorem aR.drop:∀{ds:List PyData} {xs:List V} (n:Nat),aR K F ds xs→aR K F (ds.drop n) (xs.drop n)
  | _,_,0,q=>q
  | [],_,n+1,q=>by simp only [aR] at q;subst q;exact aR.nil
  | d::ds,_,n+1,q=>by
    simp only [aR] at q
    obtain⟨x,r,e,a,b⟩:=q
    subst e
    simpa using aR.drop n b
theorem aR.take:∀{ds:List PyData} {xs:List V} (n:Nat),aR K F ds xs→aR K F (ds.take n) (xs.take n)
  | _,_,0,q=>by simpa using aR.nil
  | [],_,n+1,q=>by simp only [aR] at q;subst q;exact aR.nil
  | d::ds,_,n+1,q=>by
    simp only [aR] at q
    obtain⟨x,r,e,a,b⟩:=q
    subst e
    simpa using aR.cons a (aR.take n b)
theorem aR.set{d:PyData}{v:V}(h:DA K F d v):∀{ds:List PyData} {xs:List V} (n:Nat),aR K F ds xs→aR K F (ds.set n d) (xs.set n v)
  | [],_,_,q=>by simp only [aR] at q;subst q;exact aR.nil
  | e::ds,_,n,q=>by
    simp only [aR] at q
    obtain⟨x,r,e,a,b⟩:=q
    subst e
    cases n with
    | zero=>exact aR.cons h b
    | succ n=>exact aR.cons a (aR.set h n b)
theorem aR.erase:∀{ds:List PyData} {xs:List V} (n:Nat),aR K F ds xs→aR K F (ds.eraseIdx n) (xs.eraseIdx n)
  | [],_,_,q=>by simp only [aR] at q;subst q;exact aR.nil
  | e::ds,_,n,q=>by
    simp only [aR] at q
    obtain⟨x,r,e,a,b⟩:=q
    subst e
    cases n with
    | zero=>exact b
    | succ n=>exact aR.cons a (aR.erase n b)
theorem aR.ints:∀{ns:List Int} {xs:List V},aR K F (ns.map .int) xs↔ xs=ns.map V.int
  | [],xs=>by simp [aR]
  | n::ns,xs=>by
    simp only [List.map_cons,aR,DA]
    constructor
    · rintro⟨x,r,e,rfl,q⟩;rw [e,aR.ints.mp q]
    · rintro rfl;exact⟨_,_,rfl,rfl,aR.ints.mpr rfl⟩
theorem bR{i:Int}{v:V}:DA K F (.int i) v↔ v=.int i:=by simp only [DA]
theorem gg{b:Bool}{v:V}:DA K F (.bool b) v↔ v=.bl b:=by simp only [DA]
theorem oh{v:V}:DA K F .none v↔ v=.non:=by simp only [DA]
theorem rR{x:Str}{v:V}:DA K F (.str x) v↔ v=.str x:=by simp only [DA]
theorem eL{ds:List PyData}{v:V}:DA K F (.tuple ds) v↔ ∃a xs,v=.ref a∧cm K F a xs∧aR K F ds xs:=by simp only [DA]
theorem dh{ds:List PyData}{v:V}:DA K F (.list ds) v↔ ∃a xs,v=.ref a∧dS K F a xs∧aR K F ds xs:=by simp only [DA]
end
inductive Sv where
  | d (x:PyData)
  | l (xs:List PyData)
  /-- a list of lists that nobody else holds -/
  | n (xss:List (List PyData))
abbrev En:=List (Option Sv)
inductive Rv where
  | d (x:PyData)
  | l (xs:List PyData)
  | s (i:Nat)
def Fp(σ:L2.St)(e:En)(H:Hp)(i:Nat)(a:Addr):Prop:=(∃xs:List PyData,e[i]?=some (some (Sv.l xs))∧σ[i]?=some (some (.ref a)))∨
  ∃(xss:List (List PyData)) (l:Addr) (bs:List Addr),e[i]?=some (some (Sv.n xss))∧σ[i]?=some (some (.ref l))∧H l=some (.lst (bs.map V.ref))∧(a=l∨a∈bs)
def cn(σ:L2.St)(e:En)(H:Hp)(a:Addr):Prop:=∃i,Fp σ e H i a
structure bc (K:⇑0) (F H:Hp) (σ:L2.St) (e:En):Prop where
  sm:aC F H
  len:σ.length=e.length
  dat:∀(i:Nat) (x:PyData),e[i]?=some (some (.d x))→∃v,σ[i]?=some (some v)∧DA K F x v
  own:∀(i:Nat) (xs:List PyData),e[i]?=some (some (.l xs))→∃l vs,σ[i]?=some (some (.ref l))∧F l=none∧H l=some (.lst vs)∧aR K F xs vs
  nst:∀(i:Nat) (xss:List (List PyData)),e[i]?=some (some (.n xss))→∃(l:Addr) (bs:List Addr),σ[i]?=some (some (.ref l))∧F l=none∧H l=some (.lst (bs.map V.ref))∧bs.length=xss.length∧bs.Nodup∧l∉bs∧
    ∀(k:Nat) (b:Addr) (ys:List PyData),bs[k]?=some b→xss[k]?=some ys→F b=none∧∃us,H b=some (.lst us)∧aR K F ys us
  fp:∀(i j:Nat) (a:Addr),Fp σ e H i a→Fp σ e H j a→i=j
theorem bc.inj{K:⇑0}{F H:Hp}{σ:L2.St}{e:En}(R:bc K F H σ e)(i j:Nat)(xs ys:List PyData)(l:Addr)(h1:e[i]?=some (some (.l xs)))(h2:e[j]?=some (some (.l ys)))(h3:σ[i]?=some (some (.ref l)))(h4:σ[j]?=some (some (.ref l))):i=j:=R.fp i j l (.inl ⟨xs,h1,h3⟩) (.inl ⟨ys,h2,h4⟩)
theorem bc.fpAt{K:⇑0}{F H:Hp}{σ:L2.St}{e:En}(R:bc K F H σ e){i:Nat}{a:Addr}(h:Fp σ e H i a):F a=none∧∃vs,H a=some (.lst vs):=by
  rcases h with ⟨xs,h1,h2⟩ | ⟨xss,l,bs,h1,h2,h3,h4⟩
  · obtain⟨l,vs,g1,g2,g3,_⟩:=R.own i xs h1
    rw [h2] at g1;cases g1
    exact⟨g2,vs,g3⟩
  · obtain⟨l',bs',g1,g2,g3,g4,g5,g6,g7⟩:=R.nst i xss h1
    rw [h2] at g1;cases g1
    rw [h3] at g3
    have e1:bs=bs':=by
      have:=HO.lst.inj (Option.some.inj g3)
      exact List.map_inj_right (fun _ _ z=>V.ref.inj z) |>.mp this
    subst e1
    rcases h4 with rfl | h4
    · exact⟨g2,_,h3⟩
    · obtain⟨k,hk⟩:=List.getElem?_of_mem h4
      have hk2:k < xss.length:=by rw [←g4];exact(LG hk).1
      obtain⟨c1,us,c2,_⟩:=g7 k a xss[k] hk (List.getElem?_eq_getElem hk2)
      exact⟨c1,us,c2⟩
structure eH (σ:L2.St) (F H:Hp) (e:En) (F' H':Hp) (e':En):Prop where
  sf:aC F F'
  dom:∀a,H' a=none→H a=none
  fr:∀a vs,F a=none→H a=some (.lst vs)→¬cn σ e H a→F' a=none
  lst:∀a vs,H a=some (.lst vs)→∃vs',H' a=some (.lst vs')
  tmp:∀a o,H a=some o→¬cn σ e H a→H' a=some o
  shp:∀i:Nat,(∃xs,e'[i]?=some (some (.l xs)))↔ (∃xs,e[i]?=some (some (.l xs)))
  ow:∀a,cn σ e' H' a→cn σ e H a∨H a=none
  fd:∀a m,F a=none→H a=some (.dK m)→¬cn σ e H a→F' a=none
theorem eH.refl(σ:L2.St)(F H:Hp)(e:En):eH σ F H e F H e:=⟨aC.refl _,fun _ h=>h,fun _ _ h _ _=>h,fun _ vs h=>⟨vs,h⟩,fun _ _ h _=>h,fun _=>Iff.rfl,fun _ h=>.inl h,fun _ _ h _ _=>h⟩
theorem eH.trans{σ:L2.St}{F H F1 H1 F2 H2:Hp}{e e1 e2:En}(x:eH σ F H e F1 H1 e1)(y:eH σ F1 H1 e1 F2 H2 e2):eH σ F H e F2 H2 e2:=
  ⟨x.sf.trans y.sf,fun a h=>x.dom a (y.dom a h),fun a vs h n no=>let ⟨vs',q⟩:=x.lst a vs n;y.fr a vs' (x.fr a vs h n no) q (fun z=>(x.ow a z).elim no fun z=>by rw [n] at z;cases z),fun a vs h=>let ⟨vs',q⟩:=x.lst a vs h;y.lst a vs' q,
    fun a o h n=>y.tmp a o (x.tmp a o h n) (fun z=>(x.ow a z).elim n fun z=>by rw [h] at z;cases z),fun i=>(y.shp i).trans (x.shp i),fun a h=>(y.ow a h).elim (x.ow a) fun z=>.inr (x.dom a z),fun a m h n no=>y.fd a m (x.fd a m h n no) (x.tmp a _ n no) (fun z=>(x.ow a z).elim no fun z=>by rw [n] at z;cases z)⟩
def cC(K:⇑0)(σ:L2.St)(H0 F H:Hp)(e:En):Rv→V→Prop
  | .d x,v=>DA K F x v
  | .l xs,v=>∃l vs,v=.ref l∧H0 l=none∧F l=none∧H l=some (.lst vs)∧aR K F xs vs∧¬cn σ e H l
  | .s i,v=>σ[i]?=some (some v)∧∃xs,e[i]?=some (some (.l xs))
section
variable{K:⇑0}{σ:L2.St}{H0 F H F' H':Hp}{e e':En}{r:Rv}{v:V}
theorem cC.ext(h:cC K σ H0 F H e r v)(x:eH σ F H e F' H' e'):cC K σ H0 F' H' e' r v:=by
  cases r with
  | d y=>exact DA.mono x.sf h
  | l xs=>
    obtain⟨l,vs,e1,h1,h2,h3,h4,h5⟩:=h
    exact⟨l,vs,e1,h1,x.fr l _ h2 h3 h5,x.tmp l _ h3 h5,aR.mono x.sf h4,fun z=>(x.ow l z).elim h5 fun z=>by rw [h3] at z;cases z⟩
  | s i=>exact⟨h.1,(x.shp i).mpr h.2⟩
theorem cC.weak{H1:Hp}(h:cC K σ H1 F H e r v)(d:∀a,H1 a=none→H0 a=none):cC K σ H0 F H e r v:=by
  cases r with
  | d y=>exact h
  | l xs=>
    obtain⟨l,vs,e1,h1,r⟩:=h
    exact⟨l,vs,e1,d l h1,r⟩
  | s i=>exact h
theorem bc.ownH(R:bc K F H σ e)(a:Addr)(h:cn σ e H a):H a≠none:=by
  obtain⟨i,h⟩:=h
  obtain⟨_,vs,h2⟩:=R.fpAt h
  rw [h2];simp
theorem bc.freeF(R:bc K F H σ e){p:Addr}(hp:H p=none):F p=none:=R.sm.free hp
theorem Bm(R:bc K F H σ e)(h:∀l bs,H l=some (.lst bs)→cn σ e H l→H' l=some (.lst bs)){i:Nat}{a:Addr}:Fp σ e H' i a↔ Fp σ e H i a:=by
  have key:∀xss l,e[i]?=some (some (.n xss))→σ[i]?=some (some (.ref l))→H' l=H l:=fun xss l h1 h2=>by
    obtain⟨l',bs,g1,g2,g3,_⟩:=R.nst i xss h1
    rw [h2] at g1;cases g1
    rw [g3]
    exact h l _ g3 ⟨i,.inr ⟨xss,l,bs,h1,h2,g3,.inl rfl⟩⟩
  constructor
  · rintro(h1 | ⟨xss,l,bs,h1,h2,h3,h4⟩)
    · exact .inl h1
    · exact .inr ⟨xss,l,bs,h1,h2,by rw [←key xss l h1 h2];exact h3,h4⟩
  · rintro(h1 | ⟨xss,l,bs,h1,h2,h3,h4⟩)
    · exact .inl h1
    · exact .inr ⟨xss,l,bs,h1,h2,by rw [key xss l h1 h2];exact h3,h4⟩
theorem bc.keep(R:bc K F H σ e)(sF:aC F F')(sm:aC F' H')(hf:∀a,cn σ e H a→F' a=none)(hh:∀a o,cn σ e H a→H a=some o→H' a=some o):bc K F' H' σ e∧∀a,cn σ e H' a↔ cn σ e H a:=by
  have fs:∀{i a},Fp σ e H' i a↔ Fp σ e H i a:=fun{i a}=>Bm R fun l bs h1 h2=>hh l _ h2 h1
  refine⟨⟨sm,R.len,fun i x h=>let ⟨v,h1,h2⟩:=R.dat i x h;⟨v,h1,DA.mono sF h2⟩,fun i xs h=>?_,fun i xss h=>?_,fun i j a h1 h2=>R.fp i j a (fs.mp h1) (fs.mp h2)⟩,fun a=>⟨fun⟨i,h⟩=>⟨i,fs.mp h⟩,fun⟨i,h⟩=>⟨i,fs.mpr h⟩⟩⟩
  · obtain⟨l,vs,h1,h2,h3,h4⟩:=R.own i xs h
    have o:cn σ e H l:=⟨i,.inl ⟨xs,h,h1⟩⟩
    exact⟨l,vs,h1,hf l o,hh l _ o h3,h4.mono sF⟩
  · obtain⟨l,bs,h1,h2,h3,h4,h5,h6,h7⟩:=R.nst i xss h
    have o:cn σ e H l:=⟨i,.inr ⟨xss,l,bs,h,h1,h3,.inl rfl⟩⟩
    refine⟨l,bs,h1,hf l o,hh l _ o h3,h4,h5,h6,fun k b ys g1 g2=>?_⟩
    obtain⟨c1,us,c2,c3⟩:=h7 k b ys g1 g2
    have ob:cn σ e H b:=⟨i,.inr ⟨xss,l,bs,h,h1,h3,.inr (LK g1)⟩⟩
    exact⟨hf b ob,us,hh b _ ob c2,c3.mono sF⟩
theorem bc.same(R:bc K F H σ e)(s:aC H H'):bc K F H' σ e∧eH σ F H e F H' e:=by
  obtain⟨R',o'⟩:=R.keep (aC.refl F) (R.sm.trans s) (fun a ⟨i,h⟩=>(R.fpAt h).1) fun a o _ h=>s a o h
  exact⟨R',⟨aC.refl _,fun a h=>s.free h,fun _ _ h _ _=>h,fun a vs h=>⟨vs,s _ _ h⟩,fun a o h _=>s a o h,fun _=>Iff.rfl,fun a h=>.inl ((o' a).mp h),fun _ _ h _ _=>h⟩⟩
theorem bc.freeze(R:bc K F H σ e){p:Addr}{o:HO}(hF:F p=none)(hp:H p=some o)(hn:¬cn σ e H p):bc K (a_ F p o) H σ e∧aC F (a_ F p o):=by
  have sF:aC F (a_ F p o):=aC.new hF
  refine⟨(R.keep sF (fun b u q=>?_) (fun a ha=>?_) fun _ _ _ h=>h).1,sF⟩
  · by_cases z:b=p
    · subst z;rw [az] at q;cases q;exact hp
    · rw [ar z] at q;exact R.sm _ _ q
  · obtain⟨i,hi⟩:=ha
    have z:a≠p:=fun z=>hn ⟨i,by rw [←z];exact hi⟩
    rw [ar z];exact(R.fpAt hi).1
theorem bc.notOwn(R:bc K F H σ e){p:Addr}{o:HO}(hp:H p=some o)(hl:∀vs,o≠.lst vs):¬cn σ e H p:=fun⟨i,h⟩=>by
  obtain⟨_,vs,g⟩:=R.fpAt h
  rw [hp] at g;cases g
  exact hl _ rfl
theorem bc.newT(R:bc K F H σ e){p:Addr}{vs:List V}(hp:H p=none):bc K (a_ F p (.tup vs)) (a_ H p (.tup vs)) σ e∧eH σ F H e (a_ F p (.tup vs)) (a_ H p (.tup vs)) e:=by
  have hF:=R.freeF hp
  obtain⟨R1,X1⟩:=R.same (aC.new hp (o:=.tup vs))
  obtain⟨R2,s2⟩:=R1.freeze (p:=p) hF az (R1.notOwn az (fun _ z=>nomatch z))
  refine⟨R2,⟨s2,X1.dom,fun a ws h n _=>?_,X1.lst,X1.tmp,X1.shp,X1.ow,fun a ws h n _=>?_⟩⟩
  all_goals
    have z:a≠p:=fun z=>by rw [z,hp] at n;cases n
    rw [ar z];exact h
theorem bc.sameOwn(R:bc K F H σ e)(s:aC H H')(a:Addr):cn σ e H' a↔ cn σ e H a:=(R.keep (aC.refl F) (R.sm.trans s) (fun a ⟨i,h⟩=>(R.fpAt h).1) fun a o _ h=>s a o h).2 a
theorem bc.newL(R:bc K F H σ e){p:Addr}{vs:List V}(hp:H p=none):bc K F (a_ H p (.lst vs)) σ e∧eH σ F H e F (a_ H p (.lst vs)) e∧F p=none∧¬cn σ e (a_ H p (.lst vs)) p:=
  ⟨(R.same (aC.new hp)).1,(R.same (aC.new hp)).2,R.freeF hp,fun z=>R.ownH p ((R.sameOwn (aC.new hp) p).mp z) hp⟩
theorem bc.growT(R:bc K F H σ e){p:Addr}{xs:List V}(s:aC H H')(hp:cm K H' p xs):∃F',bc K F' H' σ e∧eH σ F H e F' H' e∧cm K F' p xs:=by
  obtain⟨R1,X1⟩:=R.same s
  rcases hp with hp | hp
  · have key:∀o,H' p=some o→(∀vs,o≠.lst vs)→(∀m,o≠.dK m)→(∀G:Hp,G p=some o→Rd G p (.tup xs))→∃F',bc K F' H' σ e∧eH σ F H e F' H' e∧cm K F' p xs:=by
      intro o ho hl hm hr
      cases q:F p with
      | some u=>
        have:=R1.sm _ _ q
        rw [ho] at this;cases this
        exact⟨F,R1,X1,.inl (hr F q)⟩
      | none=>
        obtain⟨R2,s2⟩:=R1.freeze q ho (R1.notOwn ho hl)
        refine⟨_,R2,⟨s2,X1.dom,fun a ws h n _=>?_,X1.lst,X1.tmp,X1.shp,X1.ow,fun a ws h n _=>?_⟩,.inl (hr _ az)⟩
        · have z:a≠p:=fun z=>by rw [z] at n;rw [s _ _ n] at ho;cases ho;exact hl _ rfl
          rw [ar z];exact h
        · have z:a≠p:=fun z=>by rw [z] at n;rw [s _ _ n] at ho;cases ho;exact hm _ rfl
          rw [ar z];exact h
    rcases hp with hp | ⟨ob,hp⟩
    · exact key _ hp (fun _ z=>nomatch z) (fun _ z=>nomatch z) fun G g=>.inl g
    · exact key _ hp (fun _ z=>nomatch z) (fun _ z=>nomatch z) fun G g=>.inr ⟨ob,g⟩
  · exact⟨F,R1,X1,.inr hp⟩
theorem cC.frozen(R:bc K F H σ e){xs:List PyData}(h:cC K σ H0 F H e (.l xs) v):∃F',bc K F' H σ e∧aC F F'∧DA K F' (.list xs) v∧(∀a,F a=none→H0 a≠none→F' a=none):=by
  obtain⟨l,vs,rfl,h1,h2,h3,h4,h5⟩:=h
  obtain⟨R2,s2⟩:=R.freeze h2 h3 h5
  refine⟨_,R2,s2,?_,fun a ha hn=>?_⟩
  · rw [dh]
    exact⟨l,vs,rfl,.inl (.inl az),aR.mono s2 h4⟩
  · have z:a≠l:=fun z=>hn (by rw [z];exact h1)
    rw [ar z];exact ha
def fN(e:En):Rv→Option (Bool × List PyData)
  | .d (.tuple xs)=>some (false,xs)
  | .d (.list xs)=>some (true,xs)
  | .l xs=>some (true,xs)
  | .s i=>match e[i]? with
    | some (some (.l xs))=>some (true,xs)
    | _=>none
  | _=>none
theorem eV(R:bc K F H σ e)(h:cC K σ H0 F H e r v){b:Bool}{xs:List PyData}(q:fN e r=some (b,xs)):
    ∃p vs,v=.ref p∧aR K F xs vs∧(if b=true then dS K H p vs else cm K H p vs):=by
  cases r with
  | d x=>
    cases x with
    | tuple ds=>
      cases q
      obtain⟨a,ys,e1,e2,e3⟩:=eL.mp h
      exact⟨a,ys,e1,e3,R.sm.tup e2⟩
    | list ds=>
      cases q
      obtain⟨a,ys,e1,e2,e3⟩:=dh.mp h
      exact⟨a,ys,e1,e3,R.sm.seq e2⟩
    | _=>cases q
  | l ys=>
    cases q
    obtain⟨l,vs,e1,h1,h2,h3,h4,_⟩:=h
    exact⟨l,vs,e1,h4,.inl (.inl h3)⟩
  | s i=>
    obtain⟨h1,ys,h2⟩:=h
    simp only [fN,h2] at q
    cases q
    obtain⟨l,vs,e1,e2,e3,e4⟩:=R.own i _ h2
    rw [h1] at e1;cases e1
    exact⟨l,vs,rfl,e4,.inl (.inl e3)⟩
end
abbrev FE:=En→Option (Rv × En)
abbrev FT:=En→Option (Bool × En)
abbrev FA:=En→Option (List Rv × En)
def b_(K:⇑0)(σ:L2.St)(H0 F H:Hp)(e:En):List Rv→List V→Prop
  | [],vs=>vs=[]
  | r::rs,vs=>∃v ws,vs=v::ws∧cC K σ H0 F H e r v∧b_ K σ H0 F H e rs ws
def fE(K:⇑0)(f:FE):TE:=fun σ H Q=>∃F e r e',bc K F H σ e∧f e=some (r,e')∧∀F' H' v,eH σ F H e F' H' e'→bc K F' H' σ e'→cC K σ H F' H' e' r v→Q v H'
def fT(K:⇑0)(f:FT):TT:=fun σ H Q=>∃F e b e',bc K F H σ e∧f e=some (b,e')∧∀F' H',eH σ F H e F' H' e'→bc K F' H' σ e'→Q b H'
def fA(K:⇑0)(f:FA):TA:=fun σ H Q=>∃F e rs e',bc K F H σ e∧f e=some (rs,e')∧∀F' H' vs,eH σ F H e F' H' e'→bc K F' H' σ e'→b_ K σ H F' H' e' rs vs→Q vs H'
theorem PE.mono{X:Cx}{e:Expr}{t t':TE}(h:PE X e t)(m:∀σ H Q,t' σ H Q→t σ H Q):PE X e t':=fun pins s σ H Q I q=>h pins s σ H Q I (m σ H Q q)
theorem PT.mono{X:Cx}{e:Expr}{t t':TT}(h:PT X e t)(m:∀σ H Q,t' σ H Q→t σ H Q):PT X e t':=fun pins s σ H Q I q=>h pins s σ H Q I (m σ H Q q)
theorem PW.mono{X:Cx}{e:Expr}{t t':TT}(h:PW X e t)(m:∀σ H Q,t' σ H Q→t σ H Q):PW X e t':=fun wh pins s σ H Q I q=>h wh pins s σ H Q I (m σ H Q q)
theorem PA.mono{X:Cx}{es:List Expr}{t t':TA}(h:PA X es t)(m:∀σ H Q,t' σ H Q→t σ H Q):PA X es t':=fun pos pins s σ H Q I q=>h pos pins s σ H Q I (m σ H Q q)
section
variable{K:⇑0}{σ:L2.St}{H0 F H F' H':Hp}{e e':En}
theorem b_.weak{H1:Hp}(d:∀a,H1 a=none→H0 a=none):∀{rs:List Rv} {vs:List V},b_ K σ H1 F H e rs vs→b_ K σ H0 F H e rs vs
  | [],_,h=>h
  | r::rs,_,h=>by
    obtain⟨v,ws,rfl,h1,h2⟩:=h
    exact⟨v,ws,rfl,h1.weak d,b_.weak d h2⟩
theorem eH.frz{F'':Hp}(x:eH σ F H e F' H' e')(s:aC F' F'')(h:∀a,F' a=none→H a≠none→F'' a=none):eH σ F H e F'' H' e':=
  ⟨x.sf.trans s,x.dom,fun a vs h1 h2 h3=>h a (x.fr a vs h1 h2 h3) (by rw [h2];simp),x.lst,x.tmp,x.shp,x.ow,fun a m h1 h2 h3=>h a (x.fd a m h1 h2 h3) (by rw [h2];simp)⟩
def gH:List Rv→Option (List PyData)
  | []=>some []
  | .d x::rs=>(gH rs).map (x::·)
  | .l xs::rs=>(gH rs).map (.list xs::·)
  | .s _::_=>none
theorem b_.frozen:∀{rs:List Rv} {vs:List V} {ds:List PyData} {F:Hp},bc K F H σ e→b_ K σ H0 F H e rs vs→gH rs=some ds→
    ∃F',bc K F' H σ e∧aC F F'∧aR K F' ds vs∧(∀a,F a=none→H0 a≠none→F' a=none)
  | [],_,_,F,R,h,q=>by
    cases q
    have h':_=[]:=h
    subst h'
    exact⟨F,R,aC.refl _,aR.nil,fun _ h _=>h⟩
  | .d x::rs,_,ds,F,R,h,q=>by
    obtain⟨v,ws,rfl,h1,h2⟩:=h
    obtain⟨ds',q1,rfl⟩:=LF q
    obtain⟨F',R',s',d',f'⟩:=b_.frozen R h2 q1
    exact⟨F',R',s',.cons (DA.mono s' h1) d',f'⟩
  | .l xs::rs,_,ds,F,R,h,q=>by
    obtain⟨v,ws,rfl,h1,h2⟩:=h
    obtain⟨ds',q1,rfl⟩:=LF q
    obtain⟨F',R',s',d',f'⟩:=b_.frozen R h2 q1
    obtain⟨l,us,rfl,g1,g2,g3,g4,g5⟩:=h1
    cases hl:F' l with
    | none=>
      have h1':cC K σ H0 F' H e (.l xs) (.ref l):=⟨l,us,rfl,g1,hl,g3,aR.mono s' g4,g5⟩
      obtain⟨F2,R2,s2,d2,f2⟩:=h1'.frozen R'
      exact⟨F2,R2,s'.trans s2,.cons d2 (aR.mono s2 d'),fun a ha hn=>f2 a (f' a ha hn) hn⟩
    | some o=>
      have:=R'.sm _ _ hl
      rw [g3] at this;cases this
      exact⟨F',R',s',.cons (dh.mpr ⟨l,us,rfl,.inl (.inl hl),aR.mono s' g4⟩) d',f'⟩
end
section
variable{X:Cx}{K:⇑0}{a b c:Expr}{fa fb:FE}{ft fu:FT}{pos:Pos}{es:List Expr}{fs:FA}
def af(i:Nat):FE:=fun e=>match e[i]? with
  | some (some (.d x))=>some (.d x,e)
  | some (some (.l _))=>some (.s i,e)
  | _=>none
def vC(x:PyData):FE:=fun e=>some (.d x,e)
theorem CJ{i:Nat}{σ:L2.St}{H:Hp}{Q:VK}(h:fE K (af i) σ H Q):AW i σ H Q:=by
  obtain⟨F,e,r,e',R,hf,q⟩:=h
  unfold af at hf
  match h1:e[i]?,hf with
  | some (some (.d x)),hf=>
    cases hf
    obtain⟨v,h2,h3⟩:=R.dat i x h1
    exact⟨v,h2,q F H v (eH.refl _ _ _ _) R h3⟩
  | some (some (.n _)),hf=>cases hf
  | some (some (.l xs)),hf=>
    cases hf
    obtain⟨l,vs,h2,h3⟩:=R.own i xs h1
    exact⟨_,h2,q F H _ (eH.refl _ _ _ _) R ⟨h2,xs,h1⟩⟩
  | some none,hf=>cases hf
  | none,hf=>cases hf
theorem qv(i:Nat){x:Str}{pos:Pos}(hN:X.N[i]?=some x)(hv:yK X.env.scope x)(hd:(x==("__debug__":Str))=false)(hcd:(x==("__classdict__":Str))=false):PE X (.Name x pos) (fE K (af i)):=(jR hN hv hd hcd).mono fun _ _ _ h=>CJ h
theorem xw{x:PyData}{v:V}{σ:L2.St}{H:Hp}{Q:VK}(hx:∀F,DA K F x v)(h:fE K (vC x) σ H Q):tC v σ H Q:=by
  obtain⟨F,e,r,e',R,hf,q⟩:=h
  cases hf
  exact q F H v (eH.refl _ _ _ _) R (hx F)
theorem ae{i j pos}:PE X (.Constant (.int i) j pos) (fE K (vC (.int i))):=zT.mono fun _ _ _ h=>xw (fun _=>bR.mpr rfl) h
theorem gW{b j pos}:PE X (.Constant (.bool b) j pos) (fE K (vC (.bool b))):=Dg.mono fun _ _ _ h=>xw (fun _=>gg.mpr rfl) h
theorem EF{x j pos}:PE X (.Constant (.str x) j pos) (fE K (vC (.str x))):=Et.mono fun _ _ _ h=>xw (fun _=>rR.mpr rfl) h
theorem kf{x:Str}{v:V}{u:Value}{pos:Pos}{y:PyData}(hg:Gl X x)(hm:X.mg x=some u)(r:bx v u)(hy:∀F,DA K F y v)(hd:(x==("__debug__":Str))=false):PE X (.Name x pos) (fE K (vC y)):=(lU hg hm r hd).mono fun _ _ _ h=>xw hy h
def jw(K:⇑0)(r:R2)(g:En→Rv→Rv→Option Rv):Prop:=
  ∀(σ:L2.St) (H0 F H:Hp) (e:En) (x y z:Rv) (v u:V) (Q:VK),bc K F H σ e→cC K σ H0 F H e x v→cC K σ H0 F H e y u→g e x y=some z→
    (∀F' H' w,eH σ F H e F' H' e→bc K F' H' σ e→cC K σ H F' H' e z w→Q w H')→r v u H Q
def aq(g:En→Rv→Rv→Option Rv)(fa fb:FE):FE:=fun e=>(fa e).bind fun p=>(fb p.2).bind fun q=>(g q.2 p.1 q.1).map fun z=>(z,q.2)
theorem sT{r:R2}{g:En→Rv→Rv→Option Rv}(ho:jw K r g){σ:L2.St}{H:Hp}{Q:VK}(h:fE K (aq g fa fb) σ H Q):GK r (fE K fa) (fE K fb) σ H Q:=by
  obtain⟨F,e,z,e2,R,hf,q⟩:=h
  unfold aq at hf
  obtain⟨⟨x,e1⟩,h1,hf⟩:=LD hf
  obtain⟨⟨y,e2'⟩,h2,hf⟩:=LD hf
  obtain⟨z',h3,hf⟩:=LF hf
  cases hf
  refine⟨F,e,x,e1,R,h1,fun F1 H1 v X1 R1 A1=>⟨F1,e1,y,_,R1,h2,fun F2 H2 u X2 R2 A2=>?_⟩⟩
  have X12:=X1.trans X2
  refine ho σ H F2 H2 _ x y _ v u Q R2 (A1.ext X2) (A2.weak X1.dom) h3 fun F3 H3 w X3 R3 A3=>?_
  exact q F3 H3 w (X12.trans X3) R3 (A3.weak X12.dom)
theorem pD{op:Operator}{r:R2}{g:En→Rv→Rv→Option Rv}(hr:jv X (binaryOp op) r)(ho:jw K r g)(ha:PE X a (fE K fa))(hb:PE X b (fE K fb)):PE X (.BinOp a op b pos) (fE K (aq g fa fb)):=(Di hr ha hb).mono fun _ _ _ h=>sT ho h
theorem ED{op:CmpOp}{r:R2}{g:En→Rv→Rv→Option Rv}(hr:jv X (compareOp op) r)(ho:jw K r g)(ha:PE X a (fE K fa))(hb:PE X b (fE K fb))(hm:behindInMarks op b=false):PE X (.Compare a [op] [b] pos) (fE K (aq g fa fb)):=(BZ hr ha hb hm).mono fun _ _ _ h=>sT ho h
theorem Gi{r:R2}{g:En→Rv→Rv→Option Rv}(hr:A8 X r)(ho:jw K r g)(ha:PE X a (fE K fa))(hb:PE X b (fE K fb))(hs:nX b):PE X (.Subscript a b pos) (fE K (aq g fa fb)):=(Dh hr ha hb hs).mono fun _ _ _ h=>sT ho h
def pW(g:En→Rv→Option Rv)(fa:FE):FE:=fun e=>(fa e).bind fun p=>(g p.2 p.1).map fun z=>(z,p.2)
def Fy(K:⇑0)(r:V→Hp→VK→Prop)(g:En→Rv→Option Rv):Prop:=
  ∀(σ:L2.St) (H0 F H:Hp) (e:En) (x z:Rv) (v:V) (Q:VK),bc K F H σ e→cC K σ H0 F H e x v→g e x=some z→
    (∀F' H' w,eH σ F H e F' H' e→bc K F' H' σ e→cC K σ H F' H' e z w→Q w H')→r v H Q
theorem A4{r:V→Hp→VK→Prop}{g:En→Rv→Option Rv}(ho:Fy K r g){σ:L2.St}{H:Hp}{Q:VK}(h:fE K (pW g fa) σ H Q):HX r (fE K fa) σ H Q:=by
  obtain⟨F,e,z,e2,R,hf,q⟩:=h
  unfold pW at hf
  obtain⟨⟨x,e1⟩,h1,hf⟩:=LD hf
  obtain⟨z',h3,hf⟩:=LF hf
  cases hf
  refine⟨F,e,x,_,R,h1,fun F1 H1 v X1 R1 A1=>?_⟩
  refine ho σ H F1 H1 _ x _ v Q R1 A1 h3 fun F3 H3 w X3 R3 A3=>?_
  exact q F3 H3 w (X1.trans X3) R3 (A3.weak X1.dom)
theorem Gj{op:UnaryOp}{r:V→Hp→VK→Prop}{g:En→Rv→Option Rv}(hr:GY X (unaryOp op) r)(ho:Fy K r g)(ha:PE X a (fE K fa)):PE X (.UnaryOp op a pos) (fE K (pW g fa)):=(Gf hr ha).mono fun _ _ _ h=>A4 ho h
def dz:Rv→Option Bool
  | .d (.bool b)=>some b
  | _=>none
theorem qA{σ:L2.St}{H0 F H:Hp}{e:En}{r:Rv}{v:V}{b:Bool}(h:cC K σ H0 F H e r v)(q:dz r=some b):v=.bl b:=by
  unfold dz at q
  split at q
  · cases q;exact gg.mp (show DA K F (.bool _) v from h)
  · cases q
theorem sJ{σ:L2.St}{H0 F H:Hp}{e:En}{b:Bool}:cC K σ H0 F H e (.d (.bool b)) (.bl b):=(gg (K:=K) (F:=F)).mpr rfl
def aQ(f:FE):FT:=fun e=>(f e).bind fun p=>(dz p.1).map fun b=>(b,p.2)
theorem uJ{σ:L2.St}{H:Hp}{Q:Bool→Hp→Prop}(h:fT K (aQ fa) σ H Q):fE K fa σ H fun x H'=>∃k,x=.bl k∧Q k H':=by
  obtain⟨F,e,b,e1,R,hf,q⟩:=h
  unfold aQ at hf
  obtain⟨⟨x,e1'⟩,h1,hf⟩:=LD hf
  obtain⟨b',h3,hf⟩:=LF hf
  cases hf
  exact⟨F,e,x,_,R,h1,fun F1 H1 v X1 R1 A1=>⟨_,qA A1 h3,q F1 H1 X1 R1⟩⟩
theorem EK{op:CmpOp}{r:R2}{g:En→Rv→Rv→Option Rv}(hr:jv X (compareOp op) r)(ho:jw K r g)(ha:PE X a (fE K fa))(hb:PE X b (fE K fb))(hm:behindInMarks op b=false):PT X (.Compare a [op] [b] pos) (fT K (aQ (aq g fa fb))):=
  (B_ hr ha hb hm).mono fun σ H Q h=>by
    obtain⟨F,e,z,e2,R,hf,q⟩:=uJ h
    exact sT ho ⟨F,e,z,e2,R,hf,q⟩
theorem iF{e:Expr}(h:PE X e (fE K fa))(he:∀whole,isTrue e X.env whole=(do let v ←whole;standAt e.pos;holding [v] (truthy v))):PT X e (fT K (aQ fa)):=(vG h he).mono fun _ _ _ h=>uJ h
def lb(f g:FT):FT:=fun e=>(f e).bind fun p=>if p.1=true then g p.2 else some (false,p.2)
def wa(f g:FT):FT:=fun e=>(f e).bind fun p=>if p.1=true then some (true,p.2) else g p.2
def lg(f:FT):FT:=fun e=>(f e).map fun p=>(!p.1,p.2)
theorem CF{σ:L2.St}{H:Hp}{Q:Bool→Hp→Prop}(h:fT K (lb ft fu) σ H Q):GD (fT K ft) (fT K fu) σ H Q:=by
  obtain⟨F,e,b,e1,R,hf,q⟩:=h
  unfold lb at hf
  obtain⟨⟨x,e1'⟩,h1,hf⟩:=LD hf
  refine⟨F,e,x,e1',R,h1,fun F1 H1 X1 R1=>?_⟩
  cases x with
  | true=>exact⟨F1,e1',b,e1,R1,hf,fun F2 H2 X2 R2=>q F2 H2 (X1.trans X2) R2⟩
  | false=>cases hf;exact q F1 H1 X1 R1
theorem Fm{σ:L2.St}{H:Hp}{Q:Bool→Hp→Prop}(h:fT K (wa ft fu) σ H Q):HH (fT K ft) (fT K fu) σ H Q:=by
  obtain⟨F,e,b,e1,R,hf,q⟩:=h
  unfold wa at hf
  obtain⟨⟨x,e1'⟩,h1,hf⟩:=LD hf
  refine⟨F,e,x,e1',R,h1,fun F1 H1 X1 R1=>?_⟩
  cases x with
  | false=>exact⟨F1,e1',b,e1,R1,hf,fun F2 H2 X2 R2=>q F2 H2 (X1.trans X2) R2⟩
  | true=>cases hf;exact q F1 H1 X1 R1
theorem CH{σ:L2.St}{H:Hp}{Q:Bool→Hp→Prop}(h:fT K (lg ft) σ H Q):E7 (fT K ft) σ H Q:=by
  obtain⟨F,e,b,e1,R,hf,q⟩:=h
  unfold lg at hf
  obtain⟨⟨x,e1'⟩,h1,hf⟩:=LF hf
  cases hf
  exact⟨F,e,x,_,R,h1,fun F1 H1 X1 R1=>q F1 H1 X1 R1⟩
variable{fL:List Expr}
theorem sG(ha:PT X a (fT K ft)):PW X (.BoolOp .And [a] pos) (fT K ft):=Cc ha
theorem sI(ha:PT X a (fT K ft)):PW X (.BoolOp .Or [a] pos) (fT K ft):=An ha
theorem sE(ha:PT X a (fT K ft))(hb:PW X (.BoolOp .And (b::fL) pos) (fT K fu)):PW X (.BoolOp .And (a::b::fL) pos) (fT K (lb ft fu)):=(EA ha hb).mono fun _ _ _ h=>CF h
theorem wY(ha:PT X a (fT K ft))(hb:PW X (.BoolOp .Or (b::fL) pos) (fT K fu)):PW X (.BoolOp .Or (a::b::fL) pos) (fT K (wa ft fu)):=(Dj ha hb).mono fun _ _ _ h=>Fm h
theorem sD(ha:PT X a (fT K ft)):PT X (.UnaryOp .Not a pos) (fT K (lg ft)):=(Am ha).mono fun _ _ _ h=>CH h
theorem vJ{e:Expr}(h:PW X e (fT K ft)):PT X e (fT K ft):=h.pt
def js(f g:FE):FE:=fun e=>(f e).bind fun p=>(dz p.1).bind fun b=>if b=true then g p.2 else some (.d (.bool false),p.2)
def uI(f g:FE):FE:=fun e=>(f e).bind fun p=>(dz p.1).bind fun b=>if b=true then some (.d (.bool true),p.2) else g p.2
def nO(f:FE):FE:=fun e=>(f e).bind fun p=>(dz p.1).map fun b=>(.d (.bool (!b)),p.2)
theorem EC(ha:PE X a (fE K fa))(hb:PE X (.BoolOp .And (b::fL) pos) (fE K fb)):PE X (.BoolOp .And (a::b::fL) pos) (fE K (js fa fb)):=(Eo ha hb).mono fun σ H Q h=>by
  obtain⟨F,e,z,e2,R,hf,q⟩:=h
  unfold js at hf
  obtain⟨⟨x,e1⟩,h1,hf⟩:=LD hf
  obtain⟨b,h2,hf⟩:=LD hf
  refine⟨F,e,x,e1,R,h1,fun F1 H1 v X1 R1 A1=>⟨b,qA A1 h2,?_⟩⟩
  cases b with
  | true=>exact⟨F1,e1,z,e2,R1,hf,fun F2 H2 w X2 R2 A2=>q F2 H2 w (X1.trans X2) R2 (A2.weak X1.dom)⟩
  | false=>cases hf;exact q F1 H1 _ X1 R1 sJ
theorem EE{op}(h:PE X a (fE K fa)):PE X (.BoolOp op [a] pos) (fE K fa):=Es h
def yy(t:FT)(f g:FE):FE:=fun e=>(t e).bind fun p=>if p.1=true then f p.2 else g p.2
theorem pC{c:Expr}(hc:PT X c (fT K ft))(ha:PE X a (fE K fa))(hb:PE X b (fE K fb)):PE X (.IfExp c a b pos) (fE K (yy ft fa fb)):=(zS hc ha hb).mono fun σ H Q h=>by
  obtain⟨F,e,z,e2,R,hf,q⟩:=h
  unfold yy at hf
  obtain⟨⟨x,e1⟩,h1,hf⟩:=LD hf
  refine⟨F,e,x,e1,R,h1,fun F1 H1 X1 R1=>?_⟩
  cases x with
  | true=>exact⟨F1,e1,z,e2,R1,hf,fun F2 H2 w X2 R2 A2=>q F2 H2 w (X1.trans X2) R2 (A2.weak X1.dom)⟩
  | false=>exact⟨F1,e1,z,e2,R1,hf,fun F2 H2 w X2 R2 A2=>q F2 H2 w (X1.trans X2) R2 (A2.weak X1.dom)⟩
def aj:FA:=fun e=>some ([],e)
def aa(fa:FE)(fs:FA):FA:=fun e=>(fa e).bind fun p=>(fs p.2).map fun q=>(p.1::q.1,q.2)
theorem ac:PA X [] (fA K aj):=jh.mono fun σ H Q h=>by
  obtain⟨F,e,r,e',R,hf,q⟩:=h
  cases hf
  exact q F H [] (eH.refl _ _ _ _) R rfl
theorem HA(ha:PE X a (fE K fa))(hr:PA X es (fA K fs))(h:PySem.W.isStarred a=false):PA X (a::es) (fA K (aa fa fs)):=(BW ha hr h).mono fun σ H Q h=>by
  obtain⟨F,e,z,e2,R,hf,q⟩:=h
  unfold aa at hf
  obtain⟨⟨x,e1⟩,h1,hf⟩:=LD hf
  obtain⟨⟨xs,e2'⟩,h2,hf⟩:=LF hf
  cases hf
  refine⟨F,e,x,e1,R,h1,fun F1 H1 v X1 R1 A1=>⟨F1,e1,xs,_,R1,h2,fun F2 H2 vs X2 R2 A2=>?_⟩⟩
  exact q F2 H2 (v::vs) (X1.trans X2) R2 ⟨v,vs,rfl,A1.ext X2,A2.weak X1.dom⟩
def bg(fs:FA):FE:=fun e=>(fs e).bind fun p=>(gH p.1).bind fun ds=>if ds.length≤1000 then some (.d (.tuple ds),p.2) else none
def cO(fs:FA):FE:=fun e=>(fs e).bind fun p=>(gH p.1).bind fun ds=>if ds.length≤1000 then some (.l ds,p.2) else none
theorem aH{x1}(h:PA X es (fA K fs)):PE X (.Tuple es x1 pos) (fE K (bg fs)):=(zY h).mono fun σ H Q h=>by
  obtain⟨F,e,z,e2,R,hf,q⟩:=h
  unfold bg at hf
  obtain⟨⟨rs,e1⟩,h1,hf⟩:=LD hf
  obtain⟨ds,h2,hf⟩:=LD hf
  split at hf
  case isFalse=>cases hf
  case isTrue hl=>
  cases hf
  refine⟨F,e,rs,_,R,h1,fun F1 H1 vs X1 R1 A1=>?_⟩
  obtain⟨F2,R2,s2,d2,f2⟩:=b_.frozen R1 A1 h2
  have hlen:=d2.len
  refine⟨Nat.le_of_lt (q5 ↥0),fun p hp=>?_⟩
  obtain⟨R3,X3⟩:=R2.newT (vs:=vs) hp
  exact q _ _ _ ((X1.frz s2 f2).trans X3) R3 (eL.mpr ⟨p,vs,rfl,.inl (.inl az),aR.mono X3.sf d2⟩)
theorem bw(h:PA X es (fA K fs)):PE X (.List es pos) (fE K (cO fs)):=(zV h).mono fun σ H Q h=>by
  obtain⟨F,e,z,e2,R,hf,q⟩:=h
  unfold cO at hf
  obtain⟨⟨rs,e1⟩,h1,hf⟩:=LD hf
  obtain⟨ds,h2,hf⟩:=LD hf
  split at hf
  case isFalse=>cases hf
  case isTrue hl=>
  cases hf
  refine⟨F,e,rs,_,R,h1,fun F1 H1 vs X1 R1 A1=>?_⟩
  obtain⟨F2,R2,s2,d2,f2⟩:=b_.frozen R1 A1 h2
  have hlen:=d2.len
  refine⟨Nat.le_of_lt (q5 ↥0),fun p hp=>?_⟩
  obtain⟨R3,X3,hF,no⟩:=R2.newL (vs:=vs) hp
  exact q _ _ _ ((X1.frz s2 f2).trans X3) R3 ⟨p,vs,rfl,X1.dom p hp,hF,az,d2,no⟩
def eX(K:⇑0)(r:List V→Hp→VK→Prop)(g:En→List Rv→Option Rv):Prop:=
  ∀(σ:L2.St) (H0 F H:Hp) (e:En) (xs:List Rv) (z:Rv) (vs:List V) (Q:VK),bc K F H σ e→b_ K σ H0 F H e xs vs→g e xs=some z→
    (∀F' H' w,eH σ F H e F' H' e→bc K F' H' σ e→cC K σ H F' H' e z w→Q w H')→r vs H Q
def aM(g:En→List Rv→Option Rv)(fs:FA):FE:=fun e=>(fs e).bind fun p=>(g p.2 p.1).map fun z=>(z,p.2)
theorem uG{r:List V→Hp→VK→Prop}{g:En→List Rv→Option Rv}(ho:eX K r g){σ:L2.St}{H:Hp}{Q:VK}(h:fE K (aM g fs) σ H Q):HF r (fA K fs) σ H Q:=by
  obtain⟨F,e,z,e2,R,hf,q⟩:=h
  unfold aM at hf
  obtain⟨⟨x,e1⟩,h1,hf⟩:=LD hf
  obtain⟨z',h3,hf⟩:=LF hf
  cases hf
  refine⟨F,e,x,_,R,h1,fun F1 H1 vs X1 R1 A1=>?_⟩
  refine ho σ H F1 H1 _ x _ vs Q R1 A1 h3 fun F3 H3 w X3 R3 A3=>?_
  exact q F3 H3 w (X1.trans X3) R3 (A3.weak X1.dom)
theorem Ap{x:Str}{p pos:Pos}{id:String}{r:List V→Hp→VK→Prop}{g:En→List Rv→Option Rv}(hc:dW X (.builtin id) r)(ho:eX K r g)(hg:Gl X x)(hm:X.mg x=none)(hv:bootBuiltins x=some (.builtin id))(ha:PA X (a::es) (fA K fs))(hn:x≠"__name__")(hdb:(x==("__debug__":Str))=false)
    (he:starEach (a::es) X.env=(false,eval a X.env)::starEach es X.env)(hpl:(backTo pos (starEach es X.env)).any (·.1)=false):PE X (.Call (.Name x p) (a::es) [] pos) (fE K (aM g fs)):=(lT hc hg hm hv ha hn hdb he hpl).mono fun _ _ _ h=>uG ho h
theorem ye{x:Str}{p pos:Pos}{T:String}{r:List V→Hp→VK→Prop}{g:En→List Rv→Option Rv}(hc:dW X (.type T) r)(ho:eX K r g)(hg:Gl X x)(hm:X.mg x=none)(hv:bootBuiltins x=some (.type T))(ha:PA X (a::es) (fA K fs))(hn:x≠"__name__")(hdb:(x==("__debug__":Str))=false)
    (he:starEach (a::es) X.env=(false,eval a X.env)::starEach es X.env)(hpl:(backTo pos (starEach es X.env)).any (·.1)=false):PE X (.Call (.Name x p) (a::es) [] pos) (fE K (aM g fs)):=(x9 hc hg hm hv ha hn hdb he hpl).mono fun _ _ _ h=>uG ho h
end
mutual
theorem DA.reads{X:Cx}{pins:List (Addr × Obj)}{σ:L2.St}{H:Hp}{s:Shared}(I:aF X pins σ H s):∀{d:PyData} {v:V} {u:Value},d.canLay0=true→DA X.K H d v→bx v u→∃as,Reads s.heap u d as
  | .none,_,_,_,q,r=>by
    simp only [DA] at q;subst q;cases r;exact⟨_,.none⟩
  | .bool b,_,_,_,q,r=>by
    simp only [DA] at q;subst q;cases r;exact⟨_,.bool b⟩
  | .int i,_,_,_,q,r=>by
    simp only [DA] at q;subst q;obtain⟨t,rfl⟩:=r;exact⟨_,.int i t⟩
  | .str x,_,_,_,q,r=>by
    simp only [DA] at q;subst q;obtain⟨t,rfl⟩:=r;exact⟨_,.str x t⟩
  | .tuple ds,_,_,c,q,r=>by
    simp only [DA] at q
    obtain⟨a,xs,e,hs,rr⟩:=q
    subst e;cases r
    obtain⟨its,rv,⟨o,ho,hc,n,hd⟩,hz⟩:=I.tuple hs
    obtain⟨as,q⟩:=aR.reads I (by simpa [PyData.canLay0] using c) rr rv
    exact⟨_,.tuple ho hc hd q⟩
  | .list ds,_,_,c,q,r=>by
    simp only [DA] at q
    obtain⟨a,xs,e,hs,rr⟩:=q
    subst e;cases r
    obtain⟨its,rv,ht,hz⟩:=I.list hs
    obtain⟨o,ho,hc,n,hd⟩:=ht.isList
    obtain⟨as,q⟩:=aR.reads I (by simpa [PyData.canLay0] using c) rr rv
    exact⟨_,.list ho hc hd q⟩
  | .dict _,_,_,c,_,_=>by simp [PyData.canLay0] at c
theorem aR.reads{X:Cx}{pins:List (Addr × Obj)}{σ:L2.St}{H:Hp}{s:Shared}(I:aF X pins σ H s):∀{ds:List PyData} {xs:List V} {us:List Value},PyData.canLayAll0 ds=true→aR X.K H ds xs→aU xs us→∃as,ReadsAll s.heap us ds as
  | [],_,_,_,q,r=>by
    simp only [aR] at q;subst q;cases r;exact⟨_,.nil⟩
  | d::ds,_,_,c,q,r=>by
    simp only [aR] at q
    simp only [PyData.canLayAll0,Bool.and_eq_true] at c
    obtain⟨x,rr,e,a,b⟩:=q
    subst e
    cases r with
    | cons p p'=>
      obtain⟨as,q1⟩:=DA.reads I c.1 a p
      obtain⟨bs,q2⟩:=aR.reads I c.2 b p'
      exact⟨_,.cons q1 q2⟩
end
def lG(e:En):Rv→Option PyData
  | .d x=>some x
  | .l xs=>some (.list xs)
  | .s i=>match e[i]? with
    | some (some (.l xs))=>some (.list xs)
    | _=>none
theorem oF{K:⇑0}{σ:L2.St}{H0 F H:Hp}{e:En}{r:Rv}{v:V}{d:PyData}(R:bc K F H σ e)(h:cC K σ H0 F H e r v)(q:lG e r=some d):DA K H d v:=by
  cases r with
  | d x=>cases q;exact DA.mono R.sm h
  | l xs=>
    cases q
    obtain⟨l,vs,rfl,h1,h2,h3,h4,_⟩:=h
    exact dh.mpr ⟨l,vs,rfl,.inl (.inl h3),aR.mono R.sm h4⟩
  | s i=>
    obtain⟨h1,ys,h2⟩:=h
    simp only [lG,h2] at q
    cases q
    obtain⟨l,vs,e1,e2,e3,e4⟩:=R.own i _ h2
    rw [h1] at e1;cases e1
    exact dh.mpr ⟨l,vs,rfl,.inl (.inl e3),aR.mono R.sm e4⟩
section
variable{X:Cx}{K:⇑0}
def bA:Rv→Option Int
  | .d (.int i)=>some i
  | _=>none
theorem cg{σ:L2.St}{H0 F H:Hp}{e:En}{r:Rv}{v:V}{i:Int}(h:cC K σ H0 F H e r v)(q:bA r=some i):v=.int i:=by
  unfold bA at q
  split at q
  · cases q;exact bR.mp (show DA K F (.int _) v from h)
  · cases q
theorem mO{σ:L2.St}{H0 F H:Hp}{e:En}{i:Int}:cC K σ H0 F H e (.d (.int i)) (.int i):=(bR (K:=K) (F:=F)).mpr rfl
def gI(C:Int→Int→Bool)(f:Int→Int→PyData):En→Rv→Rv→Option Rv:=fun _ x y=>(bA x).bind fun i=>(bA y).bind fun j=>if C i j=true then some (.d (f i j)) else none
theorem qT{C:Int→Int→Prop}{c:Int→Int→Bool}{g:Int→Int→V}{f:Int→Int→PyData}(hc:∀i j,c i j=true→C i j)(hf:∀F i j,DA K F (f i j) (g i j)):jw K (rI C g) (gI c f):=by
  intro σ H0 F H e x y z v u Q R A B hg q
  unfold gI at hg
  obtain⟨i,h1,hg⟩:=LD hg
  obtain⟨j,h2,hg⟩:=LD hg
  split at hg
  case isFalse=>cases hg
  case isTrue hh=>
  cases hg
  exact⟨i,j,cg A h1,cg B h2,hc i j hh,q F H _ (eH.refl _ _ _ _) R (hf F i j)⟩
theorem k7{g:Int→Int→V}{f:Int→Int→PyData}(hf:∀F i j,DA K F (f i j) (g i j)):jw K (yf g) (gI (fun _ _=>true) f):=by
  intro σ H0 F H e x y z v u Q R A B hg q
  obtain⟨i,j,h1,h2,h3,h4⟩:=qT (K:=K) (C:=fun _ _=>True) (c:=fun _ _=>true) (g:=g) (f:=f) (fun _ _ _=>trivial) hf σ H0 F H e x y z v u Q R A B hg q
  exact⟨i,j,h1,h2,h4⟩
def ze(g g':En→Rv→Rv→Option Rv):En→Rv→Rv→Option Rv:=fun e x y=>(g e x y).or (g' e x y)
theorem jw.or{r r':R2}{g g':En→Rv→Rv→Option Rv}(h:jw K r g)(h':jw K r' g'):jw K (fun x y H Q=>r x y H Q∨r' x y H Q) (ze g g'):=by
  intro σ H0 F H e x y z v u Q R A B hg q
  unfold ze at hg
  cases e1:g e x y with
  | some w=>
    rw [e1] at hg
    cases hg
    exact .inl (h σ H0 F H e x y _ v u Q R A B e1 q)
  | none=>
    rw [e1] at hg
    exact .inr (h' σ H0 F H e x y _ v u Q R A B hg q)
def y_:=gI (fun _ _=>true) fun i j=>.int (i+j)
def jK:=gI (fun _ _=>true) fun i j=>.int (i - j)
def jk(i:Int):Bool:=decide (-(2 ^ 64) < i)&&decide (i < 2 ^ 64)
def FD(n:Nat)(i:Int):Bool:=decide (i.natAbs < 2 ^ n)
theorem i6{n:Nat}{i:Int}:FD n i=true↔ Bt n i:=by unfold FD Bt;exact decide_eq_true_iff
def kY(i j:Int):Bool:=jk i || jk j || (FD 4000 i&&FD 4000 j)
def oI:=gI kY fun i j=>.int (i*j)
def eh:=gI (fun _ j=>j != 0&&FD 8000 j) fun i j=>.int (i.fdiv j)
def ba:=gI (fun _ j=>j != 0) fun i j=>.int (i.fmod j)
def yc(i j:Int):Bool:=decide (0≤j)&&decide (j≤1000000)&&jk i
def vc:=gI yc fun i j=>.int (i ^ j.toNat)
def Bv:=gI yc fun i j=>.int (i*2 ^ j.toNat)
theorem k_{i:Int}(h:jk i=true): -(2 ^ 64) < i∧i < 2 ^ 64:=by
  unfold jk at h
  rw [Bool.and_eq_true,decide_eq_true_iff,decide_eq_true_iff] at h
  exact h
theorem wV{i j:Int}(h:yc i j=true):yI i j:=by
  unfold yc at h
  rw [Bool.and_eq_true,Bool.and_eq_true,decide_eq_true_iff,decide_eq_true_iff] at h
  have:=k_ h.2
  exact⟨h.1.1,h.1.2,by lia⟩
def wj(i j:Int):Prop:=Bd i j∨CO i j
theorem BS:jv X (binaryOp .Mult) (rI wj fun i j=>.int (i*j)):=by
  intro pins s σ H x y v u Q I rx ry h
  obtain⟨i,j,e1,e2,h1,q⟩:=h
  rcases h1 with h1 | h1
  · exact Eh pins s σ H x y v u Q I rx ry ⟨i,j,e1,e2,h1,q⟩
  · exact BU pins s σ H x y v u Q I rx ry ⟨i,j,e1,e2,h1,q⟩
theorem BE{i j:Int}(h:kY i j=true):wj i j:=by
  unfold kY at h
  rw [Bool.or_eq_true,Bool.or_eq_true,Bool.and_eq_true] at h
  rcases h with (h | h) | h
  · exact .inl (.inl (k_ h))
  · exact .inl (.inr (k_ h))
  · exact .inr ⟨i6.mp h.1,i6.mp h.2⟩
theorem D7:jw K (rI wj fun i j=>.int (i*j)) oI:=qT (fun _ _ h=>BE h) fun _ _ _=>bR.mpr rfl
theorem GA:jw K (yf fun i j=>.int (i - j)) jK:=k7 fun _ _ _=>bR.mpr rfl
theorem DP:jw K (rI CN fun i j=>.int (i.fdiv j)) eh:=qT (fun i j h=>by
  rw [Bool.and_eq_true] at h
  exact⟨by simpa using h.1,i6.mp h.2⟩) fun _ _ _=>bR.mpr rfl
theorem FZ:jw K (rI (fun _ j=>j≠0) fun i j=>.int (i.fmod j)) ba:=qT (fun i j h=>by simpa using h) fun _ _ _=>bR.mpr rfl
theorem Gg:jw K (rI yI fun i j=>.int (i ^ j.toNat)) vc:=qT (fun _ _ h=>wV h) fun _ _ _=>bR.mpr rfl
theorem Gy:jw K (rI yI fun i j=>.int (i*2 ^ j.toNat)) Bv:=qT (fun _ _ h=>wV h) fun _ _ _=>bR.mpr rfl
def tM:En→Rv→Rv→Option Rv:=fun e x y=>match fN e x,fN e y with
  | some (false,xs),some (false,ys)=>if xs.length+ys.length≤1000000 then some (.d (.tuple (xs++ys))) else none
  | _,_=>none
theorem DM:jw K (Au K) tM:=by
  intro σ H0 F H e x y z v u Q R A B hg q
  unfold tM at hg
  match h1:fN e x,h2:fN e y,hg with
  | some (false,xs),some (false,ys),hg=>
    obtain⟨p,vs,rfl,d1,s1⟩:=eV R A h1
    obtain⟨p',us,rfl,d2,s2⟩:=eV R B h2
    dsimp only at hg
    split at hg
    case isFalse=>cases hg
    case isTrue hl=>
    cases hg
    have l1:=d1.len
    have l2:=d2.len
    have sl:sizeLine=16777216:=sizeLine_eq
    refine⟨p,p',vs,us,rfl,rfl,s1,s2,by lia,fun t H' sm hT=>?_⟩
    obtain⟨F',R',X',hF⟩:=R.growT sm hT
    exact q F' H' _ X' R' (eL.mpr ⟨t,_,rfl,hF,(d1.append d2).mono X'.sf⟩)
def vo(e:En):Rv→Option (List PyData)
  | .l xs=>some xs
  | .s i=>match e[i]? with
    | some (some (.l xs))=>some xs
    | _=>none
  | _=>none
theorem sd{σ:L2.St}{H0 F H:Hp}{e:En}{r:Rv}{v:V}(R:bc K F H σ e)(h:cC K σ H0 F H e r v){xs:List PyData}(q:vo e r=some xs):∃p vs,v=.ref p∧F p=none∧H p=some (.lst vs)∧aR K F xs vs:=by
  cases r with
  | d x=>cases q
  | l ys=>
    cases q
    obtain⟨l,vs,e1,h1,h2,h3,h4,_⟩:=h
    exact⟨l,vs,e1,h2,h3,h4⟩
  | s i=>
    obtain⟨h1,ys,h2⟩:=h
    simp only [vo,h2] at q
    cases q
    obtain⟨l,vs,e1,e2,e3,e4⟩:=R.own i _ h2
    rw [h1] at e1;cases e1
    exact⟨l,vs,rfl,e2,e3,e4⟩
def wD:En→Rv→Rv→Option Rv:=fun e x y=>(vo e x).bind fun xs=>(vo e y).bind fun ys=>if xs.length+ys.length≤1000000 then some (.l (xs++ys)) else none
theorem DL:jw K EL wD:=by
  intro σ H0 F H e x y z v u Q R A B hg q
  unfold wD at hg
  obtain⟨xs,h1,hg⟩:=LD hg
  obtain⟨ys,h2,hg⟩:=LD hg
  split at hg
  case isFalse=>cases hg
  case isTrue hl=>
  cases hg
  obtain⟨p,vs,rfl,f1,s1,d1⟩:=sd R A h1
  obtain⟨p',us,rfl,f2,s2,d2⟩:=sd R B h2
  have l1:=d1.len
  have l2:=d2.len
  have sl:sizeLine=16777216:=sizeLine_eq
  refine⟨p,p',vs,us,rfl,rfl,s1,s2,by lia,fun t ht=>?_⟩
  obtain⟨R3,X3,hF,no⟩:=R.newL (vs:=vs++us) ht
  exact q _ _ _ X3 R3 ⟨t,_,rfl,ht,hF,az,d1.append d2,no⟩
def bL:En→Rv→Rv→Option Rv:=ze y_ (ze tM wD)
def Do(K:⇑0):R2:=fun x y H Q=>yf (fun i j=>.int (i+j)) x y H Q∨(Au K x y H Q∨EL x y H Q)
theorem BN:jv X (binaryOp .Add) (Do X.K):=zO.or (BO.or Ee)
theorem FB:jw K (Do K) bL:=jw.or (k7 fun _ _ _=>bR.mpr rfl) (jw.or DM DL)
def oK:En→Rv→Rv→Option Rv:=fun e x y=>match fN e x,bA y with
  | some (false,[d]),some k=>if 0≤k∧k≤100000 then some (.d (.tuple (List.replicate k.toNat d))) else none
  | _,_=>none
theorem aR.rep{F:Hp}{d:PyData}{v:V}(h:DA K F d v):∀n,aR K F (List.replicate n d) (List.replicate n v)
  | 0=>aR.nil
  | n+1=>aR.cons h (aR.rep h n)
theorem ES:jw K (Aw K) oK:=by
  intro σ H0 F H e x y z v u Q R A B hg q
  unfold oK at hg
  match h1:fN e x,h2:bA y,hg with
  | some (false,[d]),some k,hg=>
    obtain⟨p,vs,rfl,d1,s1⟩:=eV R A h1
    dsimp only at hg
    split at hg
    case isFalse=>cases hg
    case isTrue hl=>
    cases hg
    have hd:=d1
    simp only [aR] at hd
    obtain⟨w,r,e1,hw,e2⟩:=hd
    subst e2 e1
    refine⟨p,k,w,rfl,cg B h2,s1,hl.1,hl.2,fun t H' sm hT=>?_⟩
    obtain⟨F',R',X',hF⟩:=R.growT sm hT
    exact q F' H' _ X' R' (eL.mpr ⟨t,_,rfl,hF,(aR.rep hw _).mono X'.sf⟩)
def tO:En→Rv→Rv→Option Rv:=fun e x y=>(vo e x).bind fun xs=>(bA y).bind fun k=>if -100000≤k∧k≤100000∧xs.length*k.toNat≤1000000 then some (.l (List.replicate k.toNat xs).flatten) else none
theorem aR.reps{F:Hp}{ds:List PyData}{vs:List V}(h:aR K F ds vs):∀n,aR K F (List.replicate n ds).flatten (List.replicate n vs).flatten
  | 0=>aR.nil
  | n+1=>by simpa [List.replicate_succ] using aR.append h (aR.reps h n)
theorem ER:jw K EO tO:=by
  intro σ H0 F H e x y z v u Q R A B hg q
  unfold tO at hg
  obtain⟨xs,h1,hg⟩:=LD hg
  obtain⟨k,h2,hg⟩:=LD hg
  split at hg
  case isFalse=>cases hg
  case isTrue hl=>
  cases hg
  obtain⟨p,vs,rfl,f1,s1,d1⟩:=sd R A h1
  have l1:=d1.len
  have sl:sizeLine=16777216:=sizeLine_eq
  refine⟨p,k,vs,rfl,cg B h2,s1,by lia,by lia,by rw [←l1];lia,fun t ht=>?_⟩
  obtain⟨R3,X3,hF,no⟩:=R.newL (vs:=(List.replicate k.toNat vs).flatten) ht
  exact q _ _ _ X3 R3 ⟨t,_,rfl,ht,hF,az,aR.reps d1 _,no⟩
def bQ:En→Rv→Rv→Option Rv:=ze oI (ze oK tO)
def Dp(K:⇑0):R2:=fun x y H Q=>rI wj (fun i j=>.int (i*j)) x y H Q∨(Aw K x y H Q∨EO x y H Q)
theorem BR:jv X (binaryOp .Mult) (Dp X.K):=BS.or (BV.or Ek)
theorem F8:jw K (Dp K) bQ:=jw.or D7 (jw.or ES ER)
def Bs:=gI (fun _ _=>true) fun i j=>.bool (decide (i < j))
def Ik:=gI (fun _ _=>true) fun i j=>.bool (decide (i≤j))
def C7:=gI (fun _ _=>true) fun i j=>.bool (decide (j < i))
def Bq:=gI (fun _ _=>true) fun i j=>.bool (decide (j≤i))
theorem Hv:jw K (yf fun i j=>.bl (decide (i < j))) Bs:=k7 fun _ _ _=>gg.mpr rfl
theorem Hk:jw K (yf fun i j=>.bl (decide (j < i))) C7:=k7 fun _ _ _=>gg.mpr rfl
theorem Hj:jw K (yf fun i j=>.bl (decide (j≤i))) Bq:=k7 fun _ _ _=>gg.mpr rfl
def EM(K:⇑0)(neg:Bool):R2:=fun x y H Q=>∃a b,DA K H a x∧DA K H b y∧SeqAt.shaped a=true∧SeqAt.shaped b=true∧Q (.bl (if neg then !PyData.eqv a b else PyData.eqv a b)) H
theorem Ef{k:Nat}(hr:c9 k X.A):jv X (compareOp .Eq) (EM X.K false):=by
  intro pins s σ H x y v u Q I rx ry h
  obtain⟨a,b,ha,hb,s1,s2,q⟩:=h
  obtain⟨as,ra⟩:=DA.reads I (SeqAt.canLay_of_shaped s1) ha rx
  obtain⟨bs,rb⟩:=DA.reads I (SeqAt.canLay_of_shaped s2) hb ry
  exact SeqAt.compareEq_shaped ra rb s1 s2 hr.units ⟨.bl _,H,I,rfl,q⟩
theorem Ei{k:Nat}(hr:c9 k X.A):jv X (compareOp .NotEq) (EM X.K true):=by
  intro pins s σ H x y v u Q I rx ry h
  obtain⟨a,b,ha,hb,s1,s2,q⟩:=h
  obtain⟨as,ra⟩:=DA.reads I (SeqAt.canLay_of_shaped s1) ha rx
  obtain⟨bs,rb⟩:=DA.reads I (SeqAt.canLay_of_shaped s2) hb ry
  exact SeqAt.compareNe_shaped ra rb s1 s2 hr.units ⟨.bl _,H,I,rfl,q⟩
def di(neg:Bool):En→Rv→Rv→Option Rv:=fun e x y=>(lG e x).bind fun a=>(lG e y).bind fun b=>if (SeqAt.shaped a&&SeqAt.shaped b)=true then some (.d (.bool (if neg then !PyData.eqv a b else PyData.eqv a b))) else none
theorem C5{neg:Bool}:jw K (EM K neg) (di neg):=by
  intro σ H0 F H e x y z v u Q R A B hg q
  unfold di at hg
  obtain⟨a,h1,hg⟩:=LD hg
  obtain⟨b,h2,hg⟩:=LD hg
  split at hg
  case isFalse=>cases hg
  case isTrue hl=>
  cases hg
  rw [Bool.and_eq_true] at hl
  exact⟨a,b,oF R A h1,oF R B h2,hl.1,hl.2,q F H _ (eH.refl _ _ _ _) R sJ⟩
def Gm(K:⇑0)(neg:Bool):R2:=fun x y H Q=>∃a xs,DA K H a x∧(DA K H (.list xs) y∨DA K H (.tuple xs) y)∧a.canLay0=true∧a.depth≤60∧PyData.canLayAll0 xs=true∧Q (.bl (if neg then !(xs.any fun y=>PyData.eqv y a) else xs.any fun y=>PyData.eqv y a)) H
theorem Eg{k:Nat}(hr:c9 k X.A):jv X (compareOp .In) (Gm X.K false):=by
  intro pins s σ H x y v u Q I rx ry h
  obtain⟨a,xs,ha,hb,s1,s2,s3,q⟩:=h
  obtain⟨as,ra⟩:=DA.reads I s1 ha rx
  have hu:=hr.units
  rcases hb with hb | hb
  · obtain⟨bs,rb⟩:=DA.reads I (by simpa [PyData.canLay0] using s3) hb ry
    exact PySem.SeqAt.in_list_reads rb ra s3 s1 ↥0 ⟨.bl _,H,I,rfl,q⟩
  · obtain⟨bs,rb⟩:=DA.reads I (by simpa [PyData.canLay0] using s3) hb ry
    exact PySem.SeqAt.in_tuple_reads rb ra s3 s1 ↥0 ⟨.bl _,H,I,rfl,q⟩
def Br(neg:Bool):En→Rv→Rv→Option Rv:=fun e x y=>(lG e x).bind fun a=>(fN e y).bind fun p=>if (a.canLay0&&decide (a.depth≤60)&&PyData.canLayAll0 p.2)=true then some (.d (.bool (if neg then !(p.2.any fun y=>PyData.eqv y a) else p.2.any fun y=>PyData.eqv y a))) else none
theorem Hq{neg:Bool}:jw K (Gm K neg) (Br neg):=by
  intro σ H0 F H e x y z v u Q R A B hg q
  unfold Br at hg
  obtain⟨a,h1,hg⟩:=LD hg
  obtain⟨⟨b,xs⟩,h2,hg⟩:=LD hg
  split at hg
  case isFalse=>cases hg
  case isTrue hl=>
  cases hg
  rw [Bool.and_eq_true,Bool.and_eq_true,decide_eq_true_iff] at hl
  obtain⟨p,vs,rfl,d1,s1⟩:=eV R B h2
  refine⟨a,xs,oF R A h1,?_,hl.1.1,hl.1.2,hl.2,q F H _ (eH.refl _ _ _ _) R sJ⟩
  cases b with
  | true=>exact .inl (dh.mpr ⟨p,vs,rfl,s1,d1.mono R.sm⟩)
  | false=>exact .inr (eL.mpr ⟨p,vs,rfl,s1,d1.mono R.sm⟩)
def bD:En→Rv→Rv→Option Rv:=fun e x y=>(fN e x).bind fun p=>(bA y).bind fun i=>(atI p.2 i).map .d
def Gn(K:⇑0):R2:=fun x y H Q=>EN K x y H Q∨Gp K x y H Q
theorem Hs:A8 X (Gn X.K):=wL.or DU
theorem aR.atI{F:Hp}{ds:List PyData}{vs:List V}(h:aR K F ds vs){i:Int}{d:PyData}(q:atI ds i=some d):∃v,L2.atI vs i=some v∧DA K F d v:=by
  unfold L2.atI at q ⊢
  obtain⟨j,h1,h2⟩:=LD q
  obtain⟨v,h3,h4⟩:=h.get h2
  exact⟨v,by rw [←h.len,h1];exact h3,h4⟩
theorem Ht:jw K (Gn K) bD:=by
  intro σ H0 F H e x y z v u Q R A B hg q
  unfold bD at hg
  obtain⟨⟨b,xs⟩,h1,hg⟩:=LD hg
  obtain⟨i,h2,hg⟩:=LD hg
  obtain⟨d,h3,hg⟩:=LF hg
  cases hg
  obtain⟨p,vs,rfl,d1,s1⟩:=eV R A h1
  obtain⟨w,h4,h5⟩:=d1.atI h3
  have fin:=q F H w (eH.refl _ _ _ _) R h5
  cases b with
  | true=>exact .inl ⟨p,vs,i,w,rfl,cg B h2,s1,h4,fin⟩
  | false=>exact .inr ⟨p,vs,i,w,rfl,cg B h2,s1,h4,fin⟩
end
end L2
namespace HT
open PySem PySem.Spec PyProof.Rows
section
variable{prog:Program}{w:World}{A:Around}{E:Value→Shared→Prop}{s:Shared}
theorem getItem_tuple_all{t sl:Addr}{items:Array Value}{vl vu:Value}{lo hi:Option Int}{Q:Value→Shared→Prop}(ht:IsTup s.heap t items)(hs:s.heap.IsSliceOf sl vl vu .none)(pl:IsPart vl lo)(pu:IsPart vu hi)
    (hw:sIx items.size 0 lo=0∧sIx items.size items.size hi=items.size)
    (h:Q (.ref t) s):wpAny (model prog w) A (getItem (.ref t) (.ref sl)) Q E s:=by
  obtain⟨os,hos,hcs,hds⟩:=id hs
  have hTs:s.TypeIs (.ref sl) "slice":=⟨os,hos,hcs⟩
  unfold getItem
  try with_reducible refine wpAny_holding ?_
  first | refine wpAny_bind (wpAny_pure ?_) | skip
  refine wpAny_bind (wpAny_sequenceKey ht.typeIs ⋯ ?_)
  refine wpAny_bind (wpAny_callSpecial?_slot (name:=Str.ofString "__getitem__") ht.typeIs PyProof.Rows.slot_tuple_getitem
    (wpAny_call_entry PyProof.Rows.slot_tuple_getitem ht.typeIs entry_tuple_getitem ?_ (args_tuple_getitem _ _)))
  show wpAny _ _ (Builtin.Tuple.tupleItemsOf (.ref t) >>= _) _ _ s
  refine wpAny_bind (tupleItemsOf_ ht ?_)
  refine wpAny_bind (wpAny_typeOf hTs ?_)
  rw [if_pos ⋯]
  refine wpAny_bind (i0 hs pl pu ?_)
  have hno:(((sIx items.size 0 lo:Nat):Int)==0&&(1:Int)==1&&(sIx items.size items.size hi - sIx items.size 0 lo)==items.size)=true:=by
    rw [hw.1,hw.2];simp
  show wpAny _ _ (if (((sIx items.size 0 lo:Nat):Int)==0&&(1:Int)==1&&(sIx items.size items.size hi - sIx items.size 0 lo)==items.size)=true then _ else _) _ _ s
  rw [if_pos hno]
  unfold Builtin.Tuple.tupleIsExact
  refine wpAny_bind (wpAny_bind (wpAny_typeOf ht.typeIs (wpAny_pure ?_)))
  rw [if_pos ⋯]
  exact wpAny_bind (wpAny_rule (wpAny_pure ⟨_,rfl,wpAny_pure h⟩))
end
end HT
namespace L2
open PySem PySem.Spec PyProof.Rows
section
variable{X:Cx}{K:⇑0}{a:Expr}{fa:FE}{lo hi:Option Expr}{pos p2:Pos}
def cutD(xs:List PyData)(lo hi:Option Int):List PyData:=(xs.drop (HT.sIx xs.length 0 lo)).take (HT.sIx xs.length xs.length hi - HT.sIx xs.length 0 lo)
def Gu(K:⇑0):V→Option Int→Option Int→Hp→VK→Prop:=fun x lo hi H Q=>∃a xs,x=.ref a∧cm K H a xs∧
  (HT.sIx xs.length 0 lo=0∧HT.sIx xs.length xs.length hi=xs.length)∧Q (.ref a) H
theorem Cp:Bf X (Gu X.K):=by
  intro pins s σ H x v vl vu lo hi sl Q I rx hs pl pu h
  obtain⟨a,xs,rfl,hx,hw,q⟩:=h
  cases rx
  obtain⟨its,r,ht,hz⟩:=I.tuple hx
  have hlen:its.toArray.size=xs.length:=by rw [List.size_toArray];exact r.length.symm
  refine⟨"tuple",_,PyProof.Rows.slot_tuple_getitem.lookup,ht.typeIs,?_⟩
  exact HT.getItem_tuple_all ht hs pl pu (by rw [hlen];exact hw) ⟨.ref a,H,I,rfl,q⟩
def HC(K:⇑0):V→Option Int→Option Int→Hp→VK→Prop:=fun x lo hi H Q=>Gs K x lo hi H Q∨(Gu K x lo hi H Q∨Gr K x lo hi H Q)
theorem HE:Bf X (HC X.K):=E2.or (Cp.or Co)
abbrev FO:=En→Option (Option Int × En)
def fO(K:⇑0)(f:FO):TO:=fun σ H Q=>∃F e o e',bc K F H σ e∧f e=some (o,e')∧∀F' H',eH σ F H e F' H' e'→bc K F' H' σ e'→Q o H'
theorem PO.mono{e:Option Expr}{t t':TO}(h:PO X e t)(m:∀σ H Q,t' σ H Q→t σ H Q):PO X e t':=fun pins s σ H Q I q=>h pins s σ H Q I (m σ H Q q)
def fK:FO:=fun e=>some (none,e)
def eJ(f:FE):FO:=fun e=>(f e).bind fun p=>(bA p.1).map fun i=>(some i,p.2)
theorem ir:PO X none (fO K fK):=B6.mono fun σ H Q h=>by
  obtain⟨F,e,o,e',R,hf,q⟩:=h
  cases hf
  exact q F H (eH.refl _ _ _ _) R
theorem iu(h:PE X a (fE K fa)):PO X (some a) (fO K (eJ fa)):=(B7 h).mono fun σ H Q h=>by
  obtain⟨F,e,o,e',R,hf,q⟩:=h
  unfold eJ at hf
  obtain⟨⟨x,e1⟩,h1,hf⟩:=LD hf
  obtain⟨i,h2,hf⟩:=LF hf
  cases hf
  exact⟨F,e,x,_,R,h1,fun F1 H1 v X1 R1 A1=>⟨i,cg A1 h2,q F1 H1 X1 R1⟩⟩
def G1(e:En)(x:Rv)(lo hi:Option Int):Option Rv:=(fN e x).map fun p=>if p.1=true then .l (cutD p.2 lo hi) else .d (.tuple (cutD p.2 lo hi))
def sU(fa:FE)(fl fh:FO):FE:=fun e=>(fa e).bind fun p=>(fl p.2).bind fun l=>(fh l.2).bind fun h=>(G1 h.2 p.1 l.1 h.1).map fun z=>(z,h.2)
theorem y4{F:Hp}{ds:List PyData}{vs:List V}(h:aR K F ds vs)(lo hi:Option Int):aR K F (cutD ds lo hi) (p8 vs lo hi):=by
  unfold cutD p8
  rw [h.len]
  exact(h.drop _).take _
theorem Bj{α:Type}{xs:List α}{lo hi:Option Int}(h:HT.sIx xs.length 0 lo=0∧HT.sIx xs.length xs.length hi=xs.length):(xs.drop (HT.sIx xs.length 0 lo)).take (HT.sIx xs.length xs.length hi - HT.sIx xs.length 0 lo)=xs:=by
  rw [h.1,h.2];simp
theorem Aq{fl fh:FO}(he:PE X a (fE X.K fa))(hl:PO X lo (fO X.K fl))(hh:PO X hi (fO X.K fh)):PE X (.Subscript a (.Slice lo hi none p2) pos) (fE X.K (sU fa fl fh)):=(zW HE he hl hh).mono fun σ H Q h=>by
  obtain⟨F,e,z,e',R,hf,q⟩:=h
  unfold sU at hf
  obtain⟨⟨x,e1⟩,h1,hf⟩:=LD hf
  obtain⟨⟨l,e2⟩,h2,hf⟩:=LD hf
  obtain⟨⟨u,e3⟩,h3,hf⟩:=LD hf
  obtain⟨z',h4,hf⟩:=LF hf
  cases hf
  refine⟨F,e,x,e1,R,h1,fun F1 H1 v X1 R1 A1=>⟨F1,e1,l,e2,R1,h2,fun F2 H2 X2 R2=>⟨F2,e2,u,_,R2,h3,fun F3 H3 X3 R3=>?_⟩⟩⟩
  have X12:=X1.trans X2
  have X13:=X12.trans X3
  have A3:=(A1.ext X2).ext X3
  unfold G1 at h4
  obtain⟨⟨b,xs⟩,h5,h4⟩:=LF h4
  obtain⟨p,vs,rfl,d1,s1⟩:=eV R3 A3 h5
  cases b with
  | true=>
    rw [if_pos rfl] at h4;cases h4
    refine .inr (.inr ⟨p,vs,rfl,s1,fun t ht=>?_⟩)
    obtain⟨R4,X4,hF,no⟩:=R3.newL (vs:=p8 vs l u) ht
    exact q _ _ _ (X13.trans X4) R4 ⟨t,_,rfl,X13.dom _ ht,hF,az,y4 d1 l u,no⟩
  | false=>
    rw [if_neg ↥1] at h4;cases h4
    by_cases hw:HT.sIx vs.length 0 l=0∧HT.sIx vs.length vs.length u=vs.length
    · refine .inr (.inl ⟨p,vs,rfl,s1,hw,?_⟩)
      have e5:cutD xs l u=xs:=by unfold cutD;exact Bj (by rw [d1.len];exact hw)
      rw [e5] at q
      obtain⟨F4,R4,X4,hF⟩:=R3.growT (aC.refl _) s1
      exact q _ _ _ (X13.trans X4) R4 (eL.mpr ⟨p,vs,rfl,hF,d1.mono X4.sf⟩)
    · refine .inl ⟨p,vs,rfl,s1,hw,fun t ht=>?_⟩
      obtain⟨R4,X4⟩:=R3.newT (vs:=p8 vs l u) ht
      exact q _ _ _ (X13.trans X4) R4 (eL.mpr ⟨t,_,rfl,.inl (.inl az),(y4 d1 l u).mono X4.sf⟩)
end
section
variable{X:Cx}{K:⇑0}
theorem l5{σ:L2.St}{H0 F H:Hp}{e:En}{x:Rv}{vs:List V}(h:b_ K σ H0 F H e [x] vs):∃v,vs=[v]∧cC K σ H0 F H e x v:=by
  obtain⟨v,ws,rfl,h1,h2⟩:=h
  have h2':ws=[]:=h2
  subst h2'
  exact⟨v,rfl,h1⟩
theorem sL{σ:L2.St}{H0 F H:Hp}{e:En}{x y:Rv}{vs:List V}(h:b_ K σ H0 F H e [x,y] vs):∃v u,vs=[v,u]∧cC K σ H0 F H e x v∧cC K σ H0 F H e y u:=by
  obtain⟨v,ws,rfl,h1,h2⟩:=h
  obtain⟨u,rfl,h3⟩:=l5 h2
  exact⟨v,u,rfl,h1,h3⟩
def g1(g:En→Rv→Option Rv):En→List Rv→Option Rv:=fun e xs=>match xs with
  | [x]=>g e x
  | _=>none
def g2(g:En→Rv→Rv→Option Rv):En→List Rv→Option Rv:=fun e xs=>match xs with
  | [x,y]=>g e x y
  | _=>none
theorem i7{r:List V→Hp→VK→Prop}{g:En→Rv→Option Rv}(h:Fy K (fun v H Q=>r [v] H Q) g):eX K r (g1 g):=by
  intro σ H0 F H e xs z vs Q R A hg q
  unfold g1 at hg
  match xs,hg with
  | [x],hg=>
    obtain⟨v,rfl,h1⟩:=l5 A
    exact h σ H0 F H e x z v Q R h1 hg q
theorem wA{r:List V→Hp→VK→Prop}{g:En→Rv→Rv→Option Rv}(h:jw K (fun v u H Q=>r [v,u] H Q) g):eX K r (g2 g):=by
  intro σ H0 F H e xs z vs Q R A hg q
  unfold g2 at hg
  match xs,hg with
  | [x,y],hg=>
    obtain⟨v,u,rfl,h1,h2⟩:=sL A
    exact h σ H0 F H e x y z v u Q R h1 h2 hg q
def fU:En→Rv→Option Rv:=fun e x=>(fN e x).map fun p=>.d (.int p.2.length)
theorem FV:eX K (fun xs H Q=>∃p ys,xs=[.ref p]∧(dS K H p ys∨cm K H p ys)∧Q (.int ys.length) H) (g1 fU):=i7 fun σ H0 F H e x z v Q R A hg q=>by
  obtain⟨⟨b,xs⟩,h5,h4⟩:=LF hg
  obtain⟨p,vs,rfl,d1,s1⟩:=eV R A h5
  cases h4
  refine⟨p,vs,rfl,?_,?_⟩
  · cases b with
    | true=>exact .inl s1
    | false=>exact .inr s1
  · rw [←d1.len]
    exact q F H _ (eH.refl _ _ _ _) R mO
def u_:En→Rv→Option Rv:=fun _ x=>(bA x).map fun i=>.d (.int (if i < 0 then -i else i))
theorem Fz:eX K (fun xs H Q=>∃i,xs=[.int i]∧Q (.int (if i < 0 then -i else i)) H) (g1 u_):=i7 fun σ H0 F H e x z v Q R A hg q=>by
  obtain⟨i,h5,h4⟩:=LF hg
  cases h4
  exact⟨i,by rw [cg A h5],q F H _ (eH.refl _ _ _ _) R mO⟩
def mw:En→Rv→Option Rv:=fun _ x=>match x with
  | .d (.int i)=>some (.d (.int i))
  | .d (.bool k)=>some (.d (.int (if k then 1 else 0)))
  | _=>none
theorem FR:eX K (fun xs H Q=>(∃i,xs=[.int i]∧Q (.int i) H)∨∃k,xs=[.bl k]∧Q (.int (if k then 1 else 0)) H) (g1 mw):=i7 fun σ H0 F H e x z v Q R A hg q=>by
  unfold mw at hg
  split at hg
  · cases hg
    exact .inl ⟨_,by rw [bR.mp (show DA K F (.int _) v from A)],q F H _ (eH.refl _ _ _ _) R mO⟩
  · cases hg
    exact .inr ⟨_,by rw [gg.mp (show DA K F (.bool _) v from A)],q F H _ (eH.refl _ _ _ _) R mO⟩
  · cases hg
def za:=gI (fun _ _=>true) fun i j=>.int (if j < i then j else i)
def xP:=gI (fun _ _=>true) fun i j=>.int (if j > i then j else i)
theorem FY:eX K (fun xs H Q=>∃i j,xs=[.int i,.int j]∧Q (.int (if j < i then j else i)) H) (g2 za):=wA fun σ H0 F H e x y z v u Q R A B hg q=>by
  obtain⟨i,j,h1,h2,h3⟩:=k7 (K:=K) (g:=fun i j=>.int (if j < i then j else i)) (fun _ _ _=>bR.mpr rfl) σ H0 F H e x y z v u Q R A B hg q
  exact⟨i,j,by rw [h1,h2],h3⟩
theorem FX:eX K (fun xs H Q=>∃i j,xs=[.int i,.int j]∧Q (.int (if j > i then j else i)) H) (g2 xP):=wA fun σ H0 F H e x y z v u Q R A B hg q=>by
  obtain⟨i,j,h1,h2,h3⟩:=k7 (K:=K) (g:=fun i j=>.int (if j > i then j else i)) (fun _ _ _=>bR.mpr rfl) σ H0 F H e x y z v u Q R A B hg q
  exact⟨i,j,by rw [h1,h2],h3⟩
def cf:En→Rv→Option Rv:=fun e x=>(fN e x).map fun p=>.d (.tuple p.2)
theorem CC:eX K (fun xs H Q=>∃p ys,xs=[.ref p]∧((dS K H p ys∧∀l,H l=none→Q (.ref l) (a_ H l (.tup ys)))∨(cm K H p ys∧Q (.ref p) H))) (g1 cf):=i7 fun σ H0 F H e x z v Q R A hg q=>by
  obtain⟨⟨b,xs⟩,h5,h4⟩:=LF hg
  obtain⟨p,vs,rfl,d1,s1⟩:=eV R A h5
  cases h4
  refine⟨p,vs,rfl,?_⟩
  cases b with
  | true=>
    refine .inl ⟨s1,fun t ht=>?_⟩
    obtain⟨R4,X4⟩:=R.newT (vs:=vs) ht
    exact q _ _ _ X4 R4 (eL.mpr ⟨t,_,rfl,.inl (.inl az),d1.mono X4.sf⟩)
  | false=>
    obtain⟨F4,R4,X4,hF⟩:=R.growT (aC.refl _) s1
    exact .inr ⟨s1,q _ _ _ X4 R4 (eL.mpr ⟨p,vs,rfl,hF,d1.mono X4.sf⟩)⟩
def qO:List PyData→Option (List Int)
  | []=>some []
  | .int i::r=>(qO r).map (i::·)
  | _=>none
theorem oQ:∀{ds:List PyData} {ns:List Int},qO ds=some ns→ds=ns.map .int
  | [],_,h=>by cases h;rfl
  | .int i::r,_,h=>by
    obtain⟨ns,h1,rfl⟩:=LF h
    rw [oQ h1];rfl
theorem mD:∀(ns:List Int),qO (ns.map .int)=some ns
  | []=>rfl
  | i::r=>by simp [qO,mD r]
def oE:List PyData→Option (List Bool)
  | []=>some []
  | .bool i::r=>(oE r).map (i::·)
  | _=>none
theorem kQ:∀(ns:List Bool),oE (ns.map .bool)=some ns
  | []=>rfl
  | i::r=>by simp [oE,kQ r]
def nD(g:List PyData→Option PyData):En→Rv→Option Rv:=fun e x=>match fN e x with
  | some (true,xs)=>(g xs).map .d
  | _=>none
theorem EZ{r:List V→Hp→VK→Prop}{g:List PyData→Option PyData}(h:∀(F H:Hp) (p:Addr) (xs:List PyData) (vs:List V) (d:PyData) (Q:VK),aR K F xs vs→dS K H p vs→g xs=some d→(∀v,(∀F,DA K F d v)→Q v H)→r [.ref p] H Q):eX K r (g1 (nD g)):=i7 fun σ H0 F H e x z v Q R A hg q=>by
  unfold nD at hg
  split at hg
  case h_2=>cases hg
  case h_1 xs h5=>
  obtain⟨p,vs,rfl,d1,s1⟩:=eV R A h5
  obtain⟨d,h6,hg⟩:=LF hg
  cases hg
  exact h F H p xs vs d Q d1 s1 h6 fun v hv=>q F H v (eH.refl _ _ _ _) R (hv F)
def qJ:List PyData→Option PyData:=fun xs=>(qO xs).map fun ns=>.int ns.sum
theorem GC:eX K (fun xs H Q=>∃(l:Addr) (ns:List Int),xs=[.ref l]∧dS K H l (ns.map V.int)∧Q (.int ns.sum) H) (g1 (nD qJ)):=EZ fun F H p xs vs d Q d1 s1 hg q=>by
  obtain⟨ns,h1,h2⟩:=LF hg
  cases h2
  rw [oQ h1] at d1
  rw [aR.ints.mp d1] at s1
  exact⟨p,ns,rfl,s1,q _ fun _=>bR.mpr rfl⟩
def i_:En→Rv→Option Rv:=fun e x=>match fN e x with
  | some (false,xs)=>(qO xs).bind fun ns=>if ns.length < 64 then some (.l ((jY ns).map .int)) else none
  | _=>none
def Ay(K:⇑0):List V→Hp→VK→Prop:=fun xs H Q=>∃(a:Addr) (ns:List Int),xs=[.ref a]∧cm K H a (ns.map V.int)∧ns.length < 64∧∀(l:Addr) (H':Hp),aC H H'→H l=none→H' l=some (.lst ((jY ns).map V.int))→Q (.ref l) H'
theorem uX:dW X (.builtin "sorted") (Ay X.K):=by
  intro pins s σ H xs us Q I rv h
  obtain⟨a,ns,e1,e2,e3,q⟩:=h
  exact tD pins s σ H xs us Q I rv ⟨a,ns,e1,e2,e3,fun l ns' H' sm hn hl hp hs=>q l H' sm hn (by rw [←AQ hp hs];exact hl)⟩
theorem Cq:eX K (Ay K) (g1 i_):=i7 fun σ H0 F H e x z v Q R A hg q=>by
  unfold i_ at hg
  split at hg
  case h_2=>cases hg
  case h_1 xs h5=>
  obtain⟨p,vs,rfl,d1,s1⟩:=eV R A h5
  obtain⟨ns,h6,hg⟩:=LD hg
  split at hg
  case isFalse=>cases hg
  case isTrue hl=>
  cases hg
  rw [oQ h6] at d1
  have s1':cm K H p vs:=s1
  rw [aR.ints.mp d1] at s1'
  refine⟨p,ns,rfl,s1',hl,fun l H' sm hn hl'=>?_⟩
  obtain⟨R4,X4⟩:=R.same sm
  exact q F H' _ X4 R4 ⟨l,_,rfl,hn,R.freeF hn,hl',aR.ints.mpr rfl,fun z=>R.ownH l ((R.sameOwn sm l).mp z) hn⟩
mutual
def lI:PyData→Bool
  | .tuple ds=>j8 ds
  | .list _=>false
  | .dict _=>false
  | _=>true
def j8:List PyData→Bool
  | []=>true
  | d::r=>lI d&&j8 r
end
mutual
def kZ:PyData→Bool
  | .list _=>false
  | .tuple ds=>lR ds
  | _=>true
def lR:List PyData→Bool
  | []=>true
  | d::r=>kZ d&&lR r
end
theorem pE{h:Heap}:∀{m:List (Int × yH)} {es:List DictEntry} {vs:List (mV × Value)} {P:Program} {w:World},KV (m.map fun p=>((Sum.inl p.1:mV),p.2.toV)) vs→Pairs (se P w) es vs→
    ReadsAll h (es.map (·.key)) (m.map fun p=>PyData.int p.1) []∧ReadsAll h (es.map (·.val)) (m.map fun p=>p.2.toD) []
  | [],es,vs,P,w,r,q=>by
    cases r
    cases q
    exact⟨.nil,.nil⟩
  | p::m,es,vs,P,w,r,q=>by
    rw [List.map_cons] at r
    cases r with
    | @cons a b as bs h1 t=>
      cases q with
      | @cons e kv es' kvs' h2 h3 h4=>
        obtain⟨z1,z2⟩:=h1
        obtain⟨c1,c2⟩:=pE t h4
        have k1:zt (Sum.inl p.1) e.key=true:=by
          have:b.1=Sum.inl p.1:=z1.symm
          rw [←this];exact h2
        rcases bJ k1 with ⟨i,t',e1,e2⟩ | ⟨x,t',e1,e2⟩
        · cases e1
          refine⟨?_,?_⟩
          · simp only [List.map_cons,e2]
            exact ReadsAll.cons (as:=[]) (bs:=[]) (.int p.1 t') c1
          · simp only [List.map_cons,h3]
            refine ReadsAll.cons (as:=[]) (bs:=[]) ?_ c2
            obtain⟨k,at_⟩:=p
            cases at_ with
            | vi n=>obtain⟨tk,z2⟩:=z2;rw [z2];exact .int n tk
            | vb x=>rw [show b.2=Value.bool x from z2];exact .bool x
            | vn=>rw [show b.2=Value.none from z2];exact .none
        · cases e1
mutual
theorem DA.readsR{X:Cx}{pins:List (Addr × Obj)}{σ:L2.St}{H:Hp}{s:Shared}(I:aF X pins σ H s):∀{d:PyData} {v:V} {u:Value},DA X.K H d v→bx v u→∃as,Reads s.heap u d as∧(kZ d=true→sysModules∉as)
  | .none,_,_,q,r=>by
    simp only [DA] at q;subst q;cases r;exact⟨_,.none,fun _=>by simp⟩
  | .bool b,_,_,q,r=>by
    simp only [DA] at q;subst q;cases r;exact⟨_,.bool b,fun _=>by simp⟩
  | .int i,_,_,q,r=>by
    simp only [DA] at q;subst q;obtain⟨t,rfl⟩:=r;exact⟨_,.int i t,fun _=>by simp⟩
  | .str x,_,_,q,r=>by
    simp only [DA] at q;subst q;obtain⟨t,rfl⟩:=r;exact⟨_,.str x t,fun _=>by simp⟩
  | .tuple ds,_,_,q,r=>by
    simp only [DA] at q
    obtain⟨a,xs,e,hs,rr⟩:=q
    subst e;cases r
    obtain⟨its,rv,⟨o,ho,hc,n,hd⟩,hz⟩:=I.tuple hs
    obtain⟨as,q,z⟩:=aR.readsR I rr rv
    exact⟨_,.tuple ho hc hd q,fun c=>z (by simpa [kZ] using c)⟩
  | .list ds,_,_,q,r=>by
    simp only [DA] at q
    obtain⟨a,xs,e,hs,rr⟩:=q
    subst e;cases r
    obtain⟨its,rv,ht,hz⟩:=I.list hs
    obtain⟨o,ho,hc,n,hd⟩:=ht.isList
    obtain⟨as,q,z⟩:=aR.readsR I rr rv
    exact⟨_,.list ho hc hd q,fun c=>by simp [kZ] at c⟩
  | .dict kvs,_,_,q,r=>by
    simp only [DA] at q
    obtain⟨a,m,e,hs,rfl⟩:=q
    subst e;cases r
    obtain⟨_,hS,vs,kv,o,es,ep,ho,hx,hd,_,hp,_⟩:=(show dX X.prog X.w H s.heap a (.dK (m.map fun p=>(Sum.inl p.1,p.2.toV))) from I.hok a _ hs)
    obtain⟨c1,c2⟩:=pE (h:=s.heap) kv hp
    refine⟨_,Reads.dict (as:=[]) (bs:=[]) ho hx.1 hd ?_ ?_,fun _=>?_⟩
    · rw [List.map_map];exact c1
    · rw [List.map_map];exact c2
    · have:a≠sysModules:=by simpa using hS
      simpa using this.symm
theorem aR.readsR{X:Cx}{pins:List (Addr × Obj)}{σ:L2.St}{H:Hp}{s:Shared}(I:aF X pins σ H s):∀{ds:List PyData} {xs:List V} {us:List Value},aR X.K H ds xs→aU xs us→∃as,ReadsAll s.heap us ds as∧(lR ds=true→sysModules∉as)
  | [],_,_,q,r=>by
    simp only [aR] at q;subst q;cases r;exact⟨_,.nil,fun _=>by simp⟩
  | d::ds,_,_,q,r=>by
    simp only [aR] at q
    obtain⟨x,rr,e,a,b⟩:=q
    subst e
    cases r with
    | cons p p'=>
      obtain⟨as,q1,z1⟩:=DA.readsR I a p
      obtain⟨bs,q2,z2⟩:=aR.readsR I b p'
      refine⟨_,.cons q1 q2,fun c=>?_⟩
      simp only [lR,Bool.and_eq_true] at c
      intro z
      rcases LH z with z | z
      · exact z1 c.1 z
      · exact z2 c.2 z
end
def md(d:PyData):Bool:=(lI d || (!d.hasDict || kZ d))&&d.showable&&decide (d.depth≤60)&&decide (d.shown.length≤sizeLine)
def nB:En→Rv→Option Rv:=fun _ x=>match x with
  | .d d=>if md d=true then some (.d (.str d.shown)) else none
  | _=>none
def Ax(K:⇑0):List V→Hp→VK→Prop:=fun xs H Q=>∃x d,xs=[x]∧DA K H d x∧(d.hasDict=true→kZ d=true)∧d.showable=true∧d.depth≤60∧d.shown.length≤sizeLine∧Q (.str d.shown) H
mutual
theorem nq:∀(d:PyData),lI d=true→d.hasDict=false
  | .none,_=>rfl
  | .bool _,_=>rfl
  | .int _,_=>rfl
  | .str _,_=>rfl
  | .tuple ds,h=>by simp only [PyData.hasDict];exact lJ ds (by simpa [lI] using h)
  | .list ds,h=>by simp [lI] at h
  | .dict _,h=>by simp [lI] at h
theorem lJ:∀(ds:List PyData),j8 ds=true→PyData.hasDictAll ds=false
  | [],_=>rfl
  | d::r,h=>by
    simp only [j8,Bool.and_eq_true] at h
    simp only [PyData.hasDictAll,nq d h.1,lJ r h.2,Bool.or_self]
end
theorem uW{X:Cx}{k:Nat}(hr:c9 k X.A):dW X (.builtin "repr") (Ax X.K):=by
  intro pins s σ H xs us Q I r h
  obtain⟨x,d,rfl,ha,hdl,hsh,hdp,hsz,q⟩:=h
  obtain⟨u,rfl,ru⟩:∃u,us=[u]∧bx x u:=by
    cases r with
    | cons p p'=>cases p';exact⟨_,rfl,p⟩
  have hun:=hr.un
  obtain⟨as,rd,hm⟩:=DA.readsR I ha ru
  have fin:∀a,u=.ref a→wpAny (model X.prog X.w) X.A (call (.builtin "repr") [u]) (EP X pins σ Q) X.xe s:=fun a e=>by
    subst e
    exact repr_of_reads' rd hsh (fun z=>hm (hdl z)) hr.gd ↥0 (fun _ _ e=>e) (fun h' u tk hk=>⟨.str _,H,I.kept hk,⟨_,rfl⟩,q⟩) hsz
  cases d with
  | none=>simp only [DA] at ha;subst ha;cases ru;exact P.repr_of_none ⟨.str _,H,I.tok _,⟨_,rfl⟩,q⟩
  | bool b=>simp only [DA] at ha;subst ha;cases ru;exact P.repr_of_bool ⟨.str _,H,I.tok _,⟨_,rfl⟩,q⟩
  | int i=>
    simp only [DA] at ha;subst ha;obtain⟨t,rfl⟩:=ru
    simp only [PyData.showable,decide_eq_true_eq] at hsh
    exact P.repr_of_int hsh ⟨.str _,H,I.tok _,⟨_,rfl⟩,q⟩
  | str y=>simp only [DA] at ha;subst ha;obtain⟨t,rfl⟩:=ru;exact P.repr_of_str ⟨.str _,H,I.tok _,⟨_,rfl⟩,q⟩ hsz
  | list ds=>obtain⟨a,_,e,_⟩:=dh.mp ha;subst e;exact fin a ru
  | dict ds=>simp only [DA] at ha;obtain⟨a,_,e,_⟩:=ha;subst e;exact fin a ru
  | tuple ds=>obtain⟨a,_,e,_⟩:=eL.mp ha;subst e;exact fin a ru
theorem EU:eX K (Ax K) (g1 nB):=i7 fun σ H0 F H e x z v Q R A hg q=>by
  unfold nB at hg
  split at hg
  case h_2=>cases hg
  case h_1 d=>
  split at hg
  case isFalse=>cases hg
  case isTrue hl=>
  cases hg
  unfold md at hl
  rw [Bool.and_eq_true,Bool.and_eq_true,Bool.and_eq_true,decide_eq_true_iff,decide_eq_true_iff] at hl
  refine⟨v,d,rfl,DA.mono R.sm A,fun z=>?_,hl.1.1.2,hl.1.2,hl.2,q F H _ (eH.refl _ _ _ _) R ((rR (K:=K) (F:=F)).mpr rfl)⟩
  have c:=hl.1.1.1
  cases hf:lI d with
  | true=>rw [nq d hf] at z;cases z
  | false=>rw [hf,z] at c;simpa using c
end
section
variable{K:⇑0}{σ:L2.St}{H0 F H F' H':Hp}{e e':En}
theorem bc.upd1(R:bc K F H σ e){σ':L2.St}(i:Nat)(hl:σ'.length=e'.length)(hσ:∀j,j≠i→σ'[j]?=σ[j]?)(he:∀j,j≠i→e'[j]?=e[j]?)(sF:aC F F')(sm:aC F' H')(hf:∀j a,j≠i→Fp σ e H j a→F' a=none)
    (hh:∀j a o,j≠i→Fp σ e H j a→H a=some o→H' a=some o)(hd:∀x,e'[i]?=some (some (.d x))→∃v,σ'[i]?=some (some v)∧DA K F' x v)
    (ho:∀xs,e'[i]?=some (some (.l xs))→∃l vs,σ'[i]?=some (some (.ref l))∧F' l=none∧H' l=some (.lst vs)∧aR K F' xs vs)
    (hn:∀xss,e'[i]?=some (some (.n xss))→∃(l:Addr) (bs:List Addr),σ'[i]?=some (some (.ref l))∧F' l=none∧H' l=some (.lst (bs.map V.ref))∧bs.length=xss.length∧bs.Nodup∧l∉bs∧
      ∀(k:Nat) (b:Addr) (ys:List PyData),bs[k]?=some b→xss[k]?=some ys→F' b=none∧∃us,H' b=some (.lst us)∧aR K F' ys us)
    (hi:∀a j,j≠i→Fp σ' e' H' i a→¬Fp σ e H j a):bc K F' H' σ' e'∧∀j a,j≠i→(Fp σ' e' H' j a↔ Fp σ e H j a):=by
  have fs:∀j a,j≠i→(Fp σ' e' H' j a↔ Fp σ e H j a):=by
    intro j a hj
    have key:∀xss l,e[j]?=some (some (.n xss))→σ[j]?=some (some (.ref l))→H' l=H l:=fun xss l h1 h2=>by
      obtain⟨l',bs,g1,g2,g3,_⟩:=R.nst j xss h1
      rw [h2] at g1;cases g1
      rw [g3]
      exact hh j l _ hj (.inr ⟨xss,l,bs,h1,h2,g3,.inl rfl⟩) g3
    unfold Fp
    rw [he j hj,hσ j hj]
    constructor
    · rintro(h1 | ⟨xss,l,bs,h1,h2,h3,h4⟩)
      · exact .inl h1
      · exact .inr ⟨xss,l,bs,h1,h2,by rw [←key xss l h1 h2];exact h3,h4⟩
    · rintro(h1 | ⟨xss,l,bs,h1,h2,h3,h4⟩)
      · exact .inl h1
      · exact .inr ⟨xss,l,bs,h1,h2,by rw [key xss l h1 h2];exact h3,h4⟩
  refine⟨⟨sm,hl,fun j x q=>?_,fun j xs q=>?_,fun j xss q=>?_,fun j k a q1 q2=>?_⟩,fs⟩
  · by_cases z:j=i
    · subst z;exact hd x q
    · rw [he j z] at q
      obtain⟨v,h1,h2⟩:=R.dat j x q
      exact⟨v,by rw [hσ j z];exact h1,DA.mono sF h2⟩
  · by_cases z:j=i
    · subst z;exact ho xs q
    · rw [he j z] at q
      obtain⟨l,vs,h1,h2,h3,h4⟩:=R.own j xs q
      have o:Fp σ e H j l:=.inl ⟨xs,q,h1⟩
      exact⟨l,vs,by rw [hσ j z];exact h1,hf j l z o,hh j l _ z o h3,h4.mono sF⟩
  · by_cases z:j=i
    · subst z;exact hn xss q
    · rw [he j z] at q
      obtain⟨l,bs,h1,h2,h3,h4,h5,h6,h7⟩:=R.nst j xss q
      have o:Fp σ e H j l:=.inr ⟨xss,l,bs,q,h1,h3,.inl rfl⟩
      refine⟨l,bs,by rw [hσ j z];exact h1,hf j l z o,hh j l _ z o h3,h4,h5,h6,fun k b ys g1 g2=>?_⟩
      obtain⟨c1,us,c2,c3⟩:=h7 k b ys g1 g2
      have ob:Fp σ e H j b:=.inr ⟨xss,l,bs,q,h1,h3,.inr (LK g1)⟩
      exact⟨hf j b z ob,us,hh j b _ z ob c2,c3.mono sF⟩
  · by_cases zj:j=i
    · subst zj
      by_cases zk:k=j
      · exact zk.symm
      · exact absurd ((fs k a zk).mp q2) (hi a k zk q1)
    · by_cases zk:k=i
      · subst zk
        exact absurd ((fs j a zj).mp q1) (hi a j zj q2)
      · exact R.fp j k a ((fs j a zj).mp q1) ((fs k a zk).mp q2)
theorem bc.putL(R:bc K F H σ e){i:Nat}{xs ys:List PyData}{l:Addr}{vs:List V}(hi:e[i]?=some (some (.l xs)))(hl:σ[i]?=some (some (.ref l)))(hd:aR K F ys vs):
    bc K F (a_ H l (.lst vs)) σ (e.set i (some (.l ys)))∧eH σ F H e F (a_ H l (.lst vs)) (e.set i (some (.l ys))):=by
  obtain⟨l',vs',h1,h2,h3,h4⟩:=R.own i xs hi
  rw [hl] at h1;cases h1
  have hlt:i < e.length:=(LG hi).1
  have fi:Fp σ e H i l:=.inl ⟨xs,hi,hl⟩
  have gi:(e.set i (some (Sv.l ys)))[i]?=some (some (.l ys)):=List.getElem?_set_self hlt
  obtain⟨R',fs⟩:=R.upd1 (F':=F) (H':=a_ H l (.lst vs)) (e':=e.set i (some (.l ys))) i (by rw [List.length_set];exact R.len) ↥4 (fun j hj=>List.getElem?_set_ne (Ne.symm hj)) (aC.refl F)
    (fun b o q=>by
      have z:b≠l:=fun z=>by rw [z,h2] at q;cases q
      rw [ar z];exact R.sm b o q)
    (fun j a _ q=>(R.fpAt q).1)
    (fun j a o hj q ha=>by
      have z:a≠l:=fun z=>hj (R.fp j i a q (by rw [z];exact fi))
      rw [ar z];exact ha)
    (fun x q=>by rw [gi] at q;cases q) (fun zs q=>by rw [gi] at q;cases q;exact⟨l,vs,hl,h2,az,hd⟩) (fun xss q=>by rw [gi] at q;cases q)
    (fun a j hj q q2=>by
      rcases q with ⟨zs,_,q⟩ | ⟨xss,_,_,q,_⟩
      · rw [hl] at q;cases q
        exact hj (R.fp j i _ q2 fi)
      · rw [gi] at q;cases q)
  refine⟨R',⟨aC.refl _,fun a q=>?_,fun _ _ q _ _=>q,fun a ws q=>?_,fun a o q n=>?_,fun j=>?_,fun a ⟨j,q⟩=>?_,fun _ _ q _ _=>q⟩⟩
  · by_cases z:a=l
    · rw [z,az] at q;cases q
    · rw [ar z] at q;exact q
  · by_cases z:a=l
    · rw [z];exact⟨vs,az⟩
    · rw [ar z];exact⟨ws,q⟩
  · have z:a≠l:=fun z=>n ⟨i,by rw [z];exact fi⟩
    rw [ar z];exact q
  · by_cases z:j=i
    · subst z;rw [gi];exact⟨fun _=>⟨xs,hi⟩,fun _=>⟨ys,rfl⟩⟩
    · rw [List.getElem?_set_ne (Ne.symm z)]
  · by_cases z:j=i
    · subst z
      rcases q with ⟨zs,_,q⟩ | ⟨xss,_,_,q,_⟩
      · rw [hl] at q;cases q;exact .inl ⟨j,fi⟩
      · rw [gi] at q;cases q
    · exact .inl ⟨j,(fs j a z).mp q⟩
theorem bc.setD(R:bc K F H σ e)(i:Nat){x:PyData}{v:V}(h:DA K F x v):bc K F H (σ.set i (some v)) (e.set i (some (.d x)))∧∀a,cn (σ.set i (some v)) (e.set i (some (.d x))) H a→cn σ e H a:=by
  have gi:∀s,(e.set i (some (Sv.d x)))[i]?=some (some s)→s=.d x∧i < e.length:=fun s q=>by
    have hlt:i < e.length:=by have:=(LG q).1;simpa using this
    rw [List.getElem?_set_self hlt] at q
    exact⟨(Option.some.inj (Option.some.inj q)).symm,hlt⟩
  have nofp:∀a,¬Fp (σ.set i (some v)) (e.set i (some (.d x))) H i a:=fun a q=>by
    rcases q with ⟨zs,q,_⟩ | ⟨xss,_,_,q,_⟩
    · cases (gi _ q).1
    · cases (gi _ q).1
  obtain⟨R',fs⟩:=R.upd1 (F':=F) (H':=H) (σ':=σ.set i (some v)) (e':=e.set i (some (.d x))) i (by rw [List.length_set,List.length_set];exact R.len) (fun j hj=>List.getElem?_set_ne (Ne.symm hj)) (fun j hj=>List.getElem?_set_ne (Ne.symm hj)) (aC.refl F) R.sm
    (fun j a _ q=>(R.fpAt q).1) (fun j a o _ _ ha=>ha)
    (fun y q=>by
      obtain⟨z,hlt⟩:=gi _ q
      cases z
      exact⟨v,List.getElem?_set_self (by rw [R.len];exact hlt),h⟩)
    (fun zs q=>by cases (gi _ q).1) (fun xss q=>by cases (gi _ q).1) (fun a j hj q=>absurd q (nofp a))
  refine⟨R',fun a ⟨j,q⟩=>?_⟩
  by_cases z:j=i
  · subst z;exact absurd q (nofp a)
  · exact⟨j,(fs j a z).mp q⟩
theorem bc.setL(R:bc K F H σ e)(i:Nat){xs:List PyData}{l:Addr}{vs:List V}(h1:F l=none)(h2:H l=some (.lst vs))(h3:aR K F xs vs)(h4:¬cn σ e H l):bc K F H (σ.set i (some (.ref l))) (e.set i (some (.l xs)))∧∀a,cn (σ.set i (some (.ref l))) (e.set i (some (.l xs))) H a→cn σ e H a∨a=l:=by
  have gi:∀s,(e.set i (some (Sv.l xs)))[i]?=some (some s)→s=.l xs∧i < e.length:=fun s q=>by
    have hlt:i < e.length:=by have:=(LG q).1;simpa using this
    rw [List.getElem?_set_self hlt] at q
    exact⟨(Option.some.inj (Option.some.inj q)).symm,hlt⟩
  have onefp:∀a,Fp (σ.set i (some (.ref l))) (e.set i (some (.l xs))) H i a→a=l:=fun a q=>by
    rcases q with ⟨zs,q,q2⟩ | ⟨xss,_,_,q,_⟩
    · obtain⟨_,hlt⟩:=gi _ q
      rw [List.getElem?_set_self (by rw [R.len];exact hlt)] at q2
      cases q2;rfl
    · cases (gi _ q).1
  obtain⟨R',fs⟩:=R.upd1 (F':=F) (H':=H) (σ':=σ.set i (some (.ref l))) (e':=e.set i (some (.l xs))) i (by rw [List.length_set,List.length_set];exact R.len) (fun j hj=>List.getElem?_set_ne (Ne.symm hj)) (fun j hj=>List.getElem?_set_ne (Ne.symm hj)) (aC.refl F) R.sm
    (fun j a _ q=>(R.fpAt q).1) (fun j a o _ _ ha=>ha) (fun y q=>by cases (gi _ q).1)
    (fun zs q=>by
      obtain⟨z,hlt⟩:=gi _ q
      cases z
      exact⟨l,vs,List.getElem?_set_self (by rw [R.len];exact hlt),h1,h2,h3⟩)
    (fun xss q=>by cases (gi _ q).1) (fun a j hj q q2=>h4 ⟨j,by rw [onefp a q] at q2;exact q2⟩)
  refine⟨R',fun a ⟨j,q⟩=>?_⟩
  by_cases z:j=i
  · subst z;exact .inr (onefp a q)
  · exact .inl ⟨j,(fs j a z).mp q⟩
end
section
variable{X:Cx}{K:⇑0}{o a:Expr}{es:List Expr}{fo:FE}{fs:FA}{name:Str}{apos cpos:Pos}{id:String}
def wm(K:⇑0)(r:V→List V→Hp→VK→Prop)(g:List PyData→List PyData→Option (PyData × List PyData)):Prop:=
  ∀(F H:Hp) (l:Addr) (xs ys ds:List PyData) (z:PyData) (vs us:List V) (Q:VK),F l=none→aC F H→H l=some (.lst vs)→aR K F xs vs→aR K F ds us→g xs ds=some (z,ys)→
    (∀w ws,DA K F z w→aR K F ys ws→Q w (a_ H l (.lst ws)))→r (.ref l) us H Q
def ck(g:List PyData→List PyData→Option (PyData × List PyData))(fo:FE)(fs:FA):FE:=fun e=>(fo e).bind fun p=>match p.1 with
  | .s i=>(fs p.2).bind fun q=>(gH q.1).bind fun ds=>match q.2[i]? with
    | some (some (.l xs))=>(g xs ds).map fun z=>(.d z.1,q.2.set i (some (.l z.2)))
    | _=>none
  | _=>none
theorem A0{r:V→List V→Hp→VK→Prop}{g:List PyData→List PyData→Option (PyData × List PyData)}(hm:wm K r g){σ:L2.St}{H:Hp}{Q:VK}(h:fE K (ck g fo fs) σ H Q):HW K "list" r (fE K fo) (fA K fs) σ H Q:=by
  obtain⟨F,e,z,e',R,hf,q⟩:=h
  unfold ck at hf
  obtain⟨⟨x,e1⟩,h1,hf⟩:=LD hf
  match x,h1,hf with
  | .s i,h1,hf=>
  dsimp only at hf
  obtain⟨⟨rs,e2⟩,h2,hf⟩:=LD hf
  obtain⟨ds,h3,hf⟩:=LD hf
  refine⟨F,e,_,e1,R,h1,fun F1 H1 v X1 R1 A1=>?_⟩
  obtain⟨g1,zs,g2⟩:=A1
  obtain⟨l,vs,c1,c2,c3,c4⟩:=R1.own i zs g2
  rw [g1] at c1;cases c1
  refine⟨.inl ⟨rfl,vs,.inl (.inl c3)⟩,F1,e1,rs,e2,R1,h2,fun F2 H2 us X2 R2 A2=>?_⟩
  match h4:e2[i]?,hf with
  | some (some (.l xs)),hf=>
  dsimp only at hf
  obtain⟨⟨zd,ys⟩,h5,hf⟩:=LF hf
  cases hf
  obtain⟨F3,R3,s3,d3,f3⟩:=b_.frozen R2 A2 h3
  obtain⟨l',vs',k1,k2,k3,k4⟩:=R3.own i xs h4
  rw [g1] at k1;cases k1
  refine hm F3 H2 l xs ys ds zd vs' us Q k2 R3.sm k3 k4 d3 h5 fun w ws hw hws=>?_
  obtain⟨R4,X4⟩:=R3.putL h4 g1 hws
  exact q _ _ _ ((X1.trans (X2.frz s3 f3)).trans X4) R4 hw
theorem Dn{r:V→List V→Hp→VK→Prop}{g:List PyData→List PyData→Option (PyData × List PyData)}(slot:Slot "list" name id)(hty:typeOf (.builtin id)=pure (.type "method_descriptor"))(hm:HN X id r)(hf:wm X.K r g)(ho:PE X o (fE X.K fo))(ha:PA X (a::es) (fA X.K fs))
    (hbase:attributeBase o name X.env (eval o X.env)=eval o X.env)
    (hfew:((backTo cpos (starEach (a::es) X.env)).all (fun x=> !x.1)&&(backToKw cpos (keywordEach [] X.env)).all (fun x=>x.1.isSome)
      &&decide ((a::es).length+([]:List Keyword).length+(if ([]:List Keyword).isEmpty then 0 else 1) < 30))=true)
    (hline:(apos.endLine==cpos.line)=true)(hs:starEach (a::es) X.env=(false,eval a X.env)::starEach es X.env)(hplain:(backTo cpos (starEach es X.env)).any (·.1)=false):
    PE X (.Call (.Attribute o name apos) (a::es) [] cpos) (fE X.K (ck g fo fs)):=(zR PySem.F.plainAttrs_list slot hty hm ho ha hbase hfew hline hs hplain).mono fun _ _ _ h=>A0 hf h
def bv:List PyData→List PyData→Option (PyData × List PyData):=fun xs ds=>match ds with
  | [d]=>if xs.length < 1000000 then some (.none,xs++[d]) else none
  | _=>none
theorem yL:wm K wZ bv:=by
  intro F H l xs ys ds z vs us Q hF sm hl d1 d2 hg q
  unfold bv at hg
  match ds,hg,d2 with
  | [d],hg,d2=>
    simp only [aR] at d2
    obtain⟨w,r,rfl,hw,rfl⟩:=d2
    dsimp only at hg
    split at hg
    case isFalse=>cases hg
    case isTrue hlt=>
    cases hg
    have:=d1.len
    have sl:sizeLine=16777216:=sizeLine_eq
    exact⟨l,vs,w,rfl,rfl,hl,by lia,q _ _ (oh.mpr rfl) (d1.append (aR.one hw))⟩
def tX:List PyData→List PyData→Option (PyData × List PyData):=fun xs ds=>match ds with
  | []=>(xs[xs.length - 1]?).map fun d=>(d,xs.dropLast)
  | _=>none
def et:List PyData→List PyData→Option (PyData × List PyData):=fun xs ds=>match ds with
  | [.int i]=>if 0≤i∧i < 1000000000 then(xs[i.toNat]?).map fun d=>(d,xs.eraseIdx i.toNat) else none
  | _=>none
theorem B8:wm K Av et:=by
  intro F H l xs ys ds z vs us Q hF sm hl d1 d2 hg q
  unfold et at hg
  match ds,hg,d2 with
  | [.int i],hg,d2=>
    simp only [aR,DA] at d2
    obtain⟨w,r,rfl,rfl,rfl⟩:=d2
    dsimp only at hg
    split at hg
    case isFalse=>cases hg
    case isTrue hlt=>
    obtain⟨d,h1,h2⟩:=LF hg
    cases h2
    obtain⟨v,g1,g2⟩:=d1.get h1
    have hlt2:i.toNat < vs.length:=(LG g1).1
    exact⟨l,vs,i,i.toNat,v,rfl,rfl,hl,by lia,by lia,seqIndex_of hlt.1 ↥0,g1,q _ _ g2 (d1.erase _)⟩
end
inductive Fl where
  | nx (e:En)
  | bk (e:En)
  | ct (e:En)
  | rt (r:Rv) (e:En)
abbrev FS:=En→Option Fl
structure dk (W:List Nat) (σ:L2.St) (F H:Hp) (e:En) (σ':L2.St) (F' H':Hp) (e':En):Prop where
  sf:aC F F'
  dom:∀a,H' a=none→H a=none
  fr:∀a vs,F a=none→H a=some (.lst vs)→¬cn σ e H a→F' a=none
  lst:∀a vs,H a=some (.lst vs)→∃vs',H' a=some (.lst vs')
  tmp:∀a o,H a=some o→¬cn σ e H a→H' a=some o
  own:∀a,cn σ' e' H' a→cn σ e H a∨H a=none
  wr:∀j,j∉W→σ'[j]?=σ[j]?
  fd:∀a m,F a=none→H a=some (.dK m)→¬cn σ e H a→F' a=none
section
variable{K:⇑0}{W W1 W2:List Nat}{σ σ1 σ2 σ':L2.St}{H0 F H F1 H1 F2 H2 F' H':Hp}{e e1 e2 e':En}
theorem dk.refl:dk W σ F H e σ F H e:=⟨aC.refl _,fun _ h=>h,fun _ _ h _ _=>h,fun _ vs h=>⟨vs,h⟩,fun _ _ h _=>h,fun _ h=>.inl h,fun _ _=>rfl,fun _ _ h _ _=>h⟩
theorem eH.s(x:eH σ F H e F' H' e'):dk W σ F H e σ F' H' e':=⟨x.sf,x.dom,x.fr,x.lst,x.tmp,x.ow,fun _ _=>rfl,x.fd⟩
theorem dk.trans(x:dk W σ F H e σ1 F1 H1 e1)(y:dk W σ1 F1 H1 e1 σ2 F2 H2 e2):dk W σ F H e σ2 F2 H2 e2:=
  ⟨x.sf.trans y.sf,fun a h=>x.dom a (y.dom a h),fun a vs h n no=>let ⟨vs',q⟩:=x.lst a vs n;y.fr a vs' (x.fr a vs h n no) q (fun z=>(x.own a z).elim no fun z=>by rw [n] at z;cases z),fun a vs h=>let ⟨vs',q⟩:=x.lst a vs h;y.lst a vs' q,
    fun a o h n=>y.tmp a o (x.tmp a o h n) (fun z=>(x.own a z).elim n fun z=>by rw [h] at z;cases z),
    fun a h=>(y.own a h).elim (x.own a) (fun z=>.inr (x.dom a z)),
    fun j h=>(y.wr j h).trans (x.wr j h),
    fun a m h n no=>y.fd a m (x.fd a m h n no) (x.tmp a _ n no) (fun z=>(x.own a z).elim no fun z=>by rw [n] at z;cases z)⟩
theorem dk.mono(x:dk W1 σ F H e σ' F' H' e')(h:∀j,j∈W1→j∈W):dk W σ F H e σ' F' H' e':=⟨x.sf,x.dom,x.fr,x.lst,x.tmp,x.own,fun j n=>x.wr j fun z=>n (h j z),x.fd⟩
end
def oH(K:⇑0)(W:List Nat)(σ:L2.St)(F H:Hp)(e:En)(D:sY):Fl→Prop
  | .nx e'=>∀F' H' σ',dk W σ F H e σ' F' H' e'→bc K F' H' σ' e'→D.nx σ' H'
  | .bk e'=>∀F' H' σ',dk W σ F H e σ' F' H' e'→bc K F' H' σ' e'→D.bk σ' H'
  | .ct e'=>∀F' H' σ',dk W σ F H e σ' F' H' e'→bc K F' H' σ' e'→D.ct σ' H'
  | .rt r e'=>∀F' H' σ' v,dk W σ F H e σ' F' H' e'→bc K F' H' σ' e'→cC K σ' H F' H' e' r v→D.rt v H'
def fS(K:⇑0)(f:FS)(W:List Nat):TS:=fun D σ H=>∃F e fl,bc K F H σ e∧f e=some fl∧oH K W σ F H e D fl
theorem PS.mono{X:Cx}{st:Stmt}{t t':TS}(h:PS X st t)(m:∀D σ H,t' D σ H→t D σ H):PS X st t':=fun pins s σ H D I q=>h pins s σ H D I (m D σ H q)
theorem lp.mono{X:Cx}{st:List Stmt}{t t':TS}(h:lp X st t)(m:∀D σ H,t' D σ H→t D σ H):lp X st t':=fun pins s σ H D I q=>h pins s σ H D I (m D σ H q)
theorem oH.later{K:⇑0}{W W1 W2:List Nat}{σ σ1:L2.St}{F H F1 H1:Hp}{e e1:En}{D:sY}{fl:Fl}(h:oH K W σ F H e D fl)(x:dk W1 σ F H e σ1 F1 H1 e1)(h1:∀j,j∈W1→j∈W)(h2:∀j,j∈W2→j∈W):oH K W2 σ1 F1 H1 e1 D fl:=by
  cases fl with
  | nx e'=>exact fun F' H' σ' y R=>h F' H' σ' ((x.mono h1).trans (y.mono h2)) R
  | bk e'=>exact fun F' H' σ' y R=>h F' H' σ' ((x.mono h1).trans (y.mono h2)) R
  | ct e'=>exact fun F' H' σ' y R=>h F' H' σ' ((x.mono h1).trans (y.mono h2)) R
  | rt r e'=>exact fun F' H' σ' v y R A=>h F' H' σ' v ((x.mono h1).trans (y.mono h2)) R (A.weak x.dom)
section
variable{X:Cx}{K:⇑0}{W W1 W2:List Nat}{st:Stmt}{fL:List Stmt}{f g:FS}{a b:Expr}{fa:FE}{ft:FT}{pos:Pos}
def eF:FS:=fun e=>some (.nx e)
def aG(f g:FS):FS:=fun e=>(f e).bind fun fl=>match fl with
  | .nx e1=>g e1
  | fl=>some fl
theorem bH:lp X [] (fS K eF []):=sy.mono fun D σ H h=>by
  obtain⟨F,e,fl,R,hf,q⟩:=h
  cases hf
  exact q F H σ dk.refl R
theorem ag(h1:PS X st (fS K f W1))(h2:lp X fL (fS K g W2)):lp X (st::fL) (fS K (aG f g) (W1++W2)):=(lX h1 h2).mono fun D σ H h=>by
  obtain⟨F,e,fl,R,hf,q⟩:=h
  unfold aG at hf
  obtain⟨fl1,h1,hf⟩:=LD hf
  have s1:∀j,j∈W1→j∈W1++W2:=fun j h=>List.mem_append.mpr (.inl h)
  have s2:∀j,j∈W2→j∈W1++W2:=fun j h=>List.mem_append.mpr (.inr h)
  refine⟨F,e,fl1,R,h1,?_⟩
  cases fl1 with
  | nx e1=>exact fun F' H' σ' x R'=>⟨F',e1,fl,R',hf,q.later x s1 s2⟩
  | bk e1=>cases hf;exact fun F' H' σ' x R'=>q F' H' σ' (x.mono s1) R'
  | ct e1=>cases hf;exact fun F' H' σ' x R'=>q F' H' σ' (x.mono s1) R'
  | rt r e1=>cases hf;exact fun F' H' σ' v x R' A=>q F' H' σ' v (x.mono s1) R' A
theorem ao(h1:PS X st (fS K f W)):lp X [st] (fS K f W):=lY h1
def cZ(fa:FE):FS:=fun e=>(fa e).map fun p=>.nx p.2
theorem cP(he:PE X a (fE K fa))(hs:swapsWith a none pos.line X.env=pure false):PS X (.Expr a pos) (fS K (cZ fa) []):=(B9 he hs).mono fun D σ H h=>by
  obtain⟨F,e,fl,R,hf,q⟩:=h
  obtain⟨⟨x,e1⟩,h1,hf⟩:=LF hf
  cases hf
  exact⟨F,e,x,e1,R,h1,fun F1 H1 v X1 R1 A1=>q F1 H1 σ X1.s R1⟩
def br(fa:FE):FS:=fun e=>(fa e).map fun p=>.rt p.1 p.2
theorem aL(he:PE X a (fE K fa)):PS X (.Return (some a) pos) (fS K (br fa) []):=(vF he).mono fun D σ H h=>by
  obtain⟨F,e,fl,R,hf,q⟩:=h
  obtain⟨⟨x,e1⟩,h1,hf⟩:=LF hf
  cases hf
  exact⟨F,e,x,e1,R,h1,fun F1 H1 v X1 R1 A1=>q F1 H1 σ v X1.s R1 A1⟩
def kg(ft:FT)(f g:FS):FS:=fun e=>(ft e).bind fun p=>if p.1=true then f p.2 else g p.2
theorem eC{c:Expr}{bs cs:List Stmt}(hc:PT X c (fT K ft))(ha:lp X bs (fS K f W1))(hb:lp X cs (fS K g W2)):PS X (.If c bs cs pos) (fS K (kg ft f g) (W1++W2)):=(Aj hc ha hb).mono fun D σ H h=>by
  obtain⟨F,e,fl,R,hf,q⟩:=h
  unfold kg at hf
  obtain⟨⟨x,e1⟩,h1,hf⟩:=LD hf
  refine⟨F,e,x,e1,R,h1,fun F1 H1 X1 R1=>?_⟩
  cases x with
  | true=>exact⟨F1,e1,fl,R1,hf,q.later (W1:=[]) X1.s (fun j h=>by cases h) fun j h=>List.mem_append.mpr (.inl h)⟩
  | false=>exact⟨F1,e1,fl,R1,hf,q.later (W1:=[]) X1.s (fun j h=>by cases h) fun j h=>List.mem_append.mpr (.inr h)⟩
def qe(i:Nat)(r:Rv)(e:En):Option En:=match r with
  | .d x=>some (e.set i (some (.d x)))
  | .l xs=>some (e.set i (some (.l xs)))
  | .s _=>none
theorem vH{σ:L2.St}{H F H1 F1:Hp}{e e1 e2:En}{i:Nat}{r:Rv}{v:V}(R:bc K F H σ e)(X1:eH σ F H e F1 H1 e1)(R1:bc K F1 H1 σ e1)(A1:cC K σ H F1 H1 e1 r v)(h:qe i r e1=some e2):
    dk [i] σ F H e (σ.set i (some v)) F1 H1 e2∧bc K F1 H1 (σ.set i (some v)) e2:=by
  have wr:∀j,j∉[i]→(σ.set i (some v))[j]?=σ[j]?:=fun j n=>List.getElem?_set_ne (fun z=>n (by simp [z]))
  cases r with
  | d x=>
    cases h
    obtain⟨R2,o2⟩:=R1.setD i A1
    exact⟨⟨X1.sf,X1.dom,X1.fr,X1.lst,X1.tmp,fun a h=>X1.ow a (o2 a h),wr,X1.fd⟩,R2⟩
  | l xs=>
    cases h
    obtain⟨l,vs,rfl,h1,h2,h3,h4,h5⟩:=A1
    obtain⟨R2,o2⟩:=R1.setL i h2 h3 h4 h5
    refine⟨⟨X1.sf,X1.dom,X1.fr,X1.lst,X1.tmp,fun a h=>?_,wr,X1.fd⟩,R2⟩
    rcases o2 a h with z | z
    · exact X1.ow a z
    · exact .inr (by rw [z];exact h1)
  | s j=>cases h
def aV(i:Nat)(fa:FE):FS:=fun e=>(fa e).bind fun p=>(qe i p.1 p.2).map .nx
theorem ax{i:Nat}{x:Str}{pos':Pos}(hN:X.N.Nodup)(hi:X.N[i]?=some x)(hx:DC X.env.scope x)(he:PE X a (fE K fa))(hs:swapsWith a (some (.Name x pos')) pos.line X.env=pure false)(hf:X.fn x=true∨X.env.scope.names.lookup x=some .local):
    PS X (.Assign [.Name x pos'] a pos) (fS K (aV i fa) [i]):=(sx hN hi hx he hs hf).mono fun D σ H h=>by
  obtain⟨F,e,fl,R,hf,q⟩:=h
  unfold aV at hf
  obtain⟨⟨r,e1⟩,h1,hf⟩:=LD hf
  obtain⟨e2,h2,hf⟩:=LF hf
  cases hf
  refine⟨F,e,r,e1,R,h1,fun F1 H1 v X1 R1 A1=>?_⟩
  obtain⟨x,R2⟩:=vH R X1 R1 A1 h2
  exact q F1 H1 _ x R2
abbrev FG:=PyData→En→Option En
def fG(K:⇑0)(g:FG)(W:List Nat):TG:=fun v σ H Q=>∃F e x e',bc K F H σ e∧DA K F x v∧g x e=some e'∧∀σ',dk W σ F H e σ' F H e'→bc K F H σ' e'→Q σ' H
abbrev CQ:=List PyData→En→Option En
def G0(K:⇑0)(g:CQ)(W:List Nat):A9:=fun vs σ H Q=>∃F e xs e',bc K F H σ e∧aR K F xs vs∧g xs e=some e'∧∀σ',dk W σ F H e σ' F H e'→bc K F H σ' e'→Q σ' H
theorem PG.mono{tg:Expr}{t t':TG}(h:PG X tg t)(m:∀v σ H Q,t' v σ H Q→t v σ H Q):PG X tg t':=fun pins s σ H v u Q I r q=>h pins s σ H v u Q I r (m v σ H Q q)
theorem yC.mono{tg:List Expr}{t t':A9}(h:yC X tg t)(m:∀v σ H Q,t' v σ H Q→t v σ H Q):yC X tg t':=fun pins s σ H v u Q I r q=>h pins s σ H v u Q I r (m v σ H Q q)
def ah(i:Nat):FG:=fun x e=>some (e.set i (some (.d x)))
def bz:CQ:=fun xs e=>match xs with
  | []=>some e
  | _=>none
def aB(g:FG)(gs:CQ):CQ:=fun xs e=>match xs with
  | x::r=>(g x e).bind fun e1=>gs r e1
  | _=>none
def bI(gs:CQ):FG:=fun x e=>match x with
  | .tuple xs=>gs xs e
  | _=>none
theorem aw{i:Nat}{x:Str}(hN:X.N.Nodup)(hi:X.N[i]?=some x)(hx:DC X.env.scope x)(hf:X.fn x=true∨X.env.scope.names.lookup x=some .local):PG X (.Name x pos) (fG K (ah i) [i]):=(B1 hN hi hx hf).mono fun v σ H Q h=>by
  obtain⟨F,e,x,e',R,hx,hg,q⟩:=h
  cases hg
  obtain⟨R2,o2⟩:=R.setD i hx
  exact q _ ⟨aC.refl _,fun _ h=>h,fun _ _ h _ _=>h,fun _ vs h=>⟨vs,h⟩,fun _ _ h _=>h,fun a h=>.inl (o2 a h),fun j n=>List.getElem?_set_ne (fun z=>n (by simp [z])),fun _ _ h _ _=>h⟩ R2
theorem eB:yC X [] (G0 K bz []):=B3.mono fun v σ H Q h=>by
  obtain⟨F,e,x,e',R,hx,hg,q⟩:=h
  unfold bz at hg
  split at hg
  · cases hg
    simp only [aR] at hx
    exact⟨hx,q σ dk.refl R⟩
  · cases hg
theorem aW{es:List Expr}{g1:FG}{gs:CQ}(h1:PG X a (fG K g1 W1))(h2:yC X es (G0 K gs W2))
    (hs:(assignEach (a::es) X.env).map (·.2)=assign a X.env::(assignEach es X.env).map (·.2)):yC X (a::es) (G0 K (aB g1 gs) (W1++W2)):=(z9 h1 h2 hs).mono fun v σ H Q h=>by
  obtain⟨F,e,xs,e',R,hx,hg,q⟩:=h
  unfold aB at hg
  match xs,hg,hx with
  | x::r,hg,hx=>
    simp only [aR] at hx
    obtain⟨w,ws,e1,hw,hr⟩:=hx
    dsimp only at hg
    obtain⟨e1',h3,h4⟩:=LD hg
    refine⟨w,ws,e1,F,e,x,e1',R,hw,h3,fun σ1 x1 R1=>⟨F,e1',r,e',R1,hr,h4,fun σ2 x2 R2=>?_⟩⟩
    exact q σ2 ((x1.mono fun j h=>List.mem_append.mpr (.inl h)).trans (x2.mono fun j h=>List.mem_append.mpr (.inr h))) R2
theorem gX{es:List Expr}{k n:Nat}{gs:CQ}(hK:X.K=K)(hc:X.calm=true)(h:yC X es (G0 K gs W))(hl:∀xs e e',gs xs e=some e'→xs.length=n)(hn:(assignEach es X.env).length=n)(hst:(assignEach es X.env).findIdx? (·.1)=none):PG X (.Tuple es k pos) (fG K (bI gs) W):=(B2 hK hc h hn hst).mono fun v σ H Q h=>by
  obtain⟨F,e,x,e',R,hx,hg,q⟩:=h
  unfold bI at hg
  match x,hg,hx with
  | .tuple xs,hg,hx=>
    obtain⟨p,vs,e1,e2,e3⟩:=eL.mp hx
    exact⟨p,vs,e1,R.sm.tup e2,by rw [←e3.len];exact hl xs e e' hg,F,e,xs,e',R,e3,hg,q⟩
theorem gK(xs:List PyData)(e e':En)(h:bz xs e=some e'):xs.length=0:=by
  unfold bz at h
  split at h
  · rfl
  · cases h
theorem bf{g:FG}{gs:CQ}{n:Nat}(hl:∀xs e e',gs xs e=some e'→xs.length=n)(xs:List PyData)(e e':En)(h:aB g gs xs e=some e'):xs.length=n+1:=by
  unfold aB at h
  match xs,h with
  | x::r,h=>
    obtain⟨e1,h3,h4⟩:=LD h
    simp [hl r e1 e' h4]
def ku(fa:FE)(g:FG):FS:=fun e=>(fa e).bind fun p=>match p.1 with
  | .d x=>(g x p.2).map .nx
  | _=>none
theorem mL{tg:Expr}{g:FG}(he:PE X a (fE K fa))(hg:PG X tg (fG K g W))(hs:swapsWithSole [tg] a pos.line X.env=pure false)(hw:swappedStores [tg] a X.env=pure none)
    (h1:(assignEach [tg] X.env).map (·.2)=[assign tg X.env]):PS X (.Assign [tg] a pos) (fS K (ku fa g) W):=(vD he hg hs hw h1).mono fun D σ H h=>by
  obtain⟨F,e,fl,R,hf,q⟩:=h
  unfold ku at hf
  obtain⟨⟨r,e1⟩,h1,hf⟩:=LD hf
  match r,h1,hf with
  | .d x,h1,hf=>
    obtain⟨e2,h2,hf⟩:=LF hf
    cases hf
    exact⟨F,e,_,e1,R,h1,fun F1 H1 v X1 R1 A1=>⟨F1,e1,x,e2,R1,A1,h2,fun σ' x2 R2=>q F1 H1 σ' (X1.s.trans x2) R2⟩⟩
def nW(i j:Nat)(fs:FA):FS:=fun e=>(fs e).bind fun p=>match p.1 with
  | [.d x,.d y]=>some (.nx ((p.2.set i (some (.d x))).set j (some (.d y))))
  | _=>none
theorem As{i j:Nat}{x y:Str}{fs:FA}{px py pt:Pos}{kt k2 pt2}(hc:X.calm=true)(hN:X.N.Nodup)(hi:X.N[i]?=some x)(hj:X.N[j]?=some y)(hij:i≠j)
    (hx:X.env.scope.names.lookup x=some .local)(hy:X.env.scope.names.lookup y=some .local)(ha:PA X [a,b] (fA K fs))
    (hw:swappedStores [.Tuple [.Name x px,.Name y py] kt pt] (.Tuple [a,b] k2 pt2) X.env=pure (some [x,y]))
    (hs:swapsWithSole [.Tuple [.Name x px,.Name y py] kt pt] (.Tuple [a,b] k2 pt2) pos.line X.env=pure false):
    PS X (.Assign [.Tuple [.Name x px,.Name y py] kt pt] (.Tuple [a,b] k2 pt2) pos) (fS K (nW i j fs) [i,j]):=(Ez hc hN hi hj hij hx hy ha hw hs).mono fun D σ H h=>by
  obtain⟨F,e,fl,R,hf,q⟩:=h
  unfold nW at hf
  obtain⟨⟨rs,e1⟩,h1,hf⟩:=LD hf
  refine⟨F,e,rs,e1,R,h1,fun F1 H1 vs X1 R1 A1=>?_⟩
  match rs,hf,A1 with
  | [.d x,.d y],hf,A1=>
    cases hf
    obtain⟨v,u,rfl,a1,a2⟩:=sL A1
    obtain⟨R2,o2⟩:=R1.setD i a1
    obtain⟨R3,o3⟩:=R2.setD j a2
    refine⟨v,u,rfl,q F1 H1 _ ⟨X1.sf,X1.dom,X1.fr,X1.lst,X1.tmp,fun a h=>X1.ow a (o2 a (o3 a h)),fun m n=>?_,X1.fd⟩ R3⟩
    rw [List.getElem?_set_ne (fun z=>n (by simp [z])),List.getElem?_set_ne (fun z=>n (by simp [z]))]
def kW:Rv→Option PyData
  | .d x=>some x
  | .l xs=>some (.list xs)
  | .s _=>none
theorem j4{r:Rv}{d:PyData}(h:kW r=some d):gH [r]=some [d]:=by
  cases r with
  | d x=>cases h;rfl
  | l xs=>cases h;rfl
  | s i=>cases h
def mQ(e:En):Rv→Option (Nat × List PyData)
  | .s n=>match e[n]? with
    | some (some (.l xs))=>some (n,xs)
    | _=>none
  | _=>none
theorem qZ{e:En}{r:Rv}{n:Nat}{xs:List PyData}(h:mQ e r=some (n,xs)):r=.s n∧e[n]?=some (some (.l xs)):=by
  unfold mQ at h
  split at h
  · split at h
    · rename_i heq
      cases h;exact⟨rfl,heq⟩
    · cases h
  · cases h
def Cn(fa fo fi:FE):FS:=fun e=>(fa e).bind fun p=>(kW p.1).bind fun d=>(fo p.2).bind fun o=>(fi o.2).bind fun i=>(bA i.1).bind fun k=>(mQ i.2 o.1).bind fun s=>(r6 s.2.length k).map fun j=>.nx (i.2.set s.1 (some (.l (s.2.set j d))))
theorem EJ{o i:Expr}{fo fi:FE}{ps:Pos}(he:PE X a (fE K fa))(ho:PE X o (fE K fo))(hi:PE X i (fE K fi))
    (ha:∀v,assign (.Subscript o i ps) X.env v=(do
      let ov ←holding [v] (eval o X.env)
      let iv ←holding [v,ov] (eval i X.env)
      standAt ps
      holding [v,ov,iv] (setItem ov iv v)
      release [v,ov,iv] []))
    (hs:swapsWithSole [.Subscript o i ps] a pos.line X.env=pure false)(hw:swappedStores [.Subscript o i ps] a X.env=pure none)
    (h1:(assignEach [.Subscript o i ps] X.env).map (·.2)=[assign (.Subscript o i ps) X.env]):PS X (.Assign [.Subscript o i ps] a pos) (fS K (Cn fa fo fi) []):=(vD he (zZ ho hi uw ha) hs hw h1).mono fun D σ H h=>by
  obtain⟨F,e,fl,R,hf,q⟩:=h
  unfold Cn at hf
  obtain⟨⟨r,e1⟩,g1,hf⟩:=LD hf
  obtain⟨d,g2,hf⟩:=LD hf
  obtain⟨⟨ro,e2⟩,g3,hf⟩:=LD hf
  obtain⟨⟨ri,e3⟩,g4,hf⟩:=LD hf
  obtain⟨k,g5,hf⟩:=LD hf
  obtain⟨⟨n,xs⟩,g6,hf⟩:=LD hf
  obtain⟨j,g7,hf⟩:=LF hf
  cases hf
  obtain⟨z6,g6'⟩:=qZ g6
  dsimp only at z6 g6'
  subst z6
  refine⟨F,e,r,e1,R,g1,fun F1 H1 v X1 R1 A1=>?_⟩
  refine⟨F1,e1,_,e2,R1,g3,fun F2 H2 u X2 R2 A2=>⟨F2,e2,ri,e3,R2,g4,fun F3 H3 w X3 R3 A3=>?_⟩⟩
  have X12:=X1.trans X2
  have X13:=X12.trans X3
  have A1':=(A1.ext X2).ext X3
  obtain⟨F4,R4,s4,d4,f4⟩:=b_.frozen R3 (rs:=[r]) (vs:=[v]) ⟨v,[],rfl,A1',rfl⟩ (j4 g2)
  obtain⟨h1,_⟩:=A2
  obtain⟨l,vs,k1,k2,k3,k4⟩:=R4.own n xs g6'
  rw [h1] at k1;cases k1
  simp only [aR] at d4
  obtain⟨v',r',e',hv,_⟩:=d4
  cases e'
  refine⟨l,vs,k,j,rfl,cg A3 g5,k3,by rw [←k4.len];exact g7,?_⟩
  obtain⟨R5,X5⟩:=R4.putL g6' h1 (k4.set hv j)
  exact q _ _ σ ((X13.frz s4 f4).trans X5).s R5
def jl(ft:FT)(f:FS):Nat→FS
  | 0,_=>none
  | n+1,e=>(ft e).bind fun p=>if p.1=true then(f p.2).bind fun fl=>match fl with
      | .nx e1=>jl ft f n e1
      | .ct e1=>jl ft f n e1
      | .bk e1=>some (.nx e1)
      | .rt r e1=>some (.rt r e1)
    else some (.nx p.2)
def dG(n:Nat)(ft:FT)(f:FS):FS:=jl ft f n
theorem gY{n:Nat}{c:Expr}{body:List Stmt}(hp:PassesOwn (model X.prog X.w) X.A X.env X.xe)(hc:PT X c (fT K ft))(hb:lp X body (fS K f W)):PS X (.While c body [] pos) (fS K (dG n ft f) W):=(Al hp hc hb).mono fun D σ H h=>by
  refine⟨fun m σ H=>∃F e fl,bc K F H σ e∧jl ft f m e=some fl∧oH K W σ F H e D fl,⟨n,h⟩,?_⟩
  rintro m σ H ⟨F,e,fl,R,hf,q⟩
  cases m with
  | zero=>cases hf
  | succ m=>
    unfold jl at hf
    obtain⟨⟨x,e1⟩,h1,hf⟩:=LD hf
    refine⟨F,e,x,e1,R,h1,fun F1 H1 X1 R1=>?_⟩
    have sub:∀j,j∈([]:List Nat)→j∈W:=fun j h=>by cases h
    cases x with
    | false=>
      rw [if_neg ↥1] at hf
      cases hf
      exact xT (q F1 H1 σ X1.s R1)
    | true=>
      rw [if_pos rfl] at hf
      refine zq ?_
      obtain⟨fl1,h2,hf⟩:=LD hf
      have q1:oH K W σ F1 H1 e1 D fl:=q.later (W1:=[]) X1.s sub fun j h=>h
      refine⟨fun σ' H'=>∃F' e',bc K F' H' σ' e'∧jl ft f m e'=some fl∧oH K W σ' F' H' e' D fl,fun σ' H' ⟨F',e',r1,r2,r3⟩=>⟨m,Nat.lt_succ_self m,F',e',fl,r1,r2,r3⟩,F1,e1,fl1,R1,h2,?_⟩
      cases fl1 with
      | nx e2=>exact fun F2 H2 σ2 x R2=>⟨F2,e2,R2,hf,q1.later x (fun j h=>h) fun j h=>h⟩
      | ct e2=>exact fun F2 H2 σ2 x R2=>⟨F2,e2,R2,hf,q1.later x (fun j h=>h) fun j h=>h⟩
      | bk e2=>cases hf;exact fun F2 H2 σ2 x R2=>q1 F2 H2 σ2 x R2
      | rt r e2=>cases hf;exact fun F2 H2 σ2 v x R2 A=>q1 F2 H2 σ2 v x R2 A
end
theorem PI.mono{X:Cx}{tg iter:Expr}{t t':TI}(h:PI X tg iter t)(m:∀σ H R,t' σ H R→t σ H R):PI X tg iter t':=fun pins s σ H R I q=>h pins s σ H R I (m σ H R q)
theorem PI.or{X:Cx}{tg iter:Expr}{t t':TI}(h:PI X tg iter t)(h':PI X tg iter t'):PI X tg iter (fun σ H R=>t σ H R∨t' σ H R):=fun pins s σ H R I q=>by
  rcases q with q | q
  · exact h pins s σ H R I q
  · exact h' pins s σ H R I q
abbrev hZ:=List (Nat × List PyData)
def xD(K:⇑0)(σ:L2.St)(F H:Hp)(own:hZ):Prop:=∀p∈own,∃l vs,σ[p.1]?=some (some (.ref l))∧H l=some (.lst vs)∧aR K F p.2 vs
def uR(K:⇑0)(σ:L2.St)(J:It)(items:List PyData)(own:hZ)(F0:Hp):Prop:=∀F H,aC F0 F→aC F H→xD K σ F H own→
  (∀i,i < items.length→J.go i H)∧(∀i,items.length≤i→J.stop i H)∧∀i d x H',items[i]?=some d→J.yld i H x H'→∃F',aC H H'∧aC F F'∧aC F' H'∧(∀a,F a=none→H a≠none→F' a=none)∧DA K F' d x
abbrev FI:=En→Option (List PyData × hZ × En)
def keeps(own:hZ)(e:En):Prop:=∀p∈own,e[p.1]?=some (some (.l p.2))
def fI(K:⇑0)(f:FI):TI:=fun σ H R=>∃F e items own e',bc K F H σ e∧f e=some (items,own,e')∧∀J F' H',eH σ F H e F' H' e'→bc K F' H' σ e'→keeps own e'→uR K σ J items own F'→R J H'
section
variable{K:⇑0}{σ:L2.St}{H0 F H F' H':Hp}{e e':En}
theorem bc.held(R:bc K F H σ e){own:hZ}(h:keeps own e):xD K σ F H own:=fun p hp=>by
  obtain⟨l,vs,h1,h2,h3,h4⟩:=R.own p.1 p.2 (h p hp)
  exact⟨l,vs,h1,h3,h4⟩
theorem bc.step(R:bc K F H σ e)(s:aC H H')(sF:aC F F')(sm:aC F' H')(fz:∀a,F a=none→H a≠none→F' a=none):bc K F' H' σ e∧eH σ F H e F' H' e:=by
  obtain⟨R',o'⟩:=R.keep sF sm (fun a ⟨i,h⟩=>by
    obtain⟨h1,vs,h2⟩:=R.fpAt h
    exact fz a h1 (by rw [h2];simp)) fun a o _ h=>s a o h
  exact⟨R',⟨sF,fun a h=>s.free h,fun a vs h1 h2 _=>fz a h1 (by rw [h2];simp),fun a vs h=>⟨vs,s _ _ h⟩,fun a o h _=>s a o h,fun _=>Iff.rfl,fun a h=>.inl ((o' a).mp h),fun a m h1 h2 _=>fz a h1 (by rw [h2];simp)⟩⟩
inductive rG (K:⇑0) (σ:L2.St) (F:Hp) (p:Addr):Bool→List PyData→hZ→Prop
  | tup {xs vs}:cm K F p vs→aR K F xs vs→rG K σ F p false xs []
  | lst {xs vs}:dS K F p vs→aR K F xs vs→rG K σ F p true xs []
  | own {i xs}:σ[i]?=some (some (.ref p))→rG K σ F p true xs [(i,xs)]
theorem rG.at{p:Addr}{b:Bool}{xs:List PyData}{own:hZ}{F0:Hp}(h:rG K σ F0 p b xs own)(s0:aC F0 F)(s1:aC F H){own':hZ}(hh:xD K σ F H own')(hs:∀q∈own,q∈own'):∃vs,aR K F xs vs∧(if b=true then dS K H p vs else cm K H p vs):=by
  cases h with
  | tup h1 h2=>exact⟨_,h2.mono s0,(s0.trans s1).tup h1⟩
  | lst h1 h2=>exact⟨_,h2.mono s0,(s0.trans s1).seq h1⟩
  | @own i xs h1=>
    obtain⟨l,vs,g1,g2,g3⟩:=hh (i,xs) (hs (i,xs) ↥1)
    dsimp only at g1 g3
    rw [h1] at g1;cases g1
    exact⟨vs,g3,.inl (.inl g2)⟩
def vM(e:En):Rv→Option (Bool × List PyData × hZ)
  | .d (.tuple xs)=>some (false,xs,[])
  | .d (.list xs)=>some (true,xs,[])
  | .l xs=>some (true,xs,[])
  | .s i=>match e[i]? with
    | some (some (.l xs))=>some (true,xs,[(i,xs)])
    | _=>none
  | _=>none
theorem km{r:Rv}{v:V}{b:Bool}{xs:List PyData}{own:hZ}(R:bc K F H σ e)(A:cC K σ H0 F H e r v)(h:vM e r=some (b,xs,own)):
    ∃F' p,bc K F' H σ e∧aC F F'∧(∀a,F a=none→H0 a≠none→F' a=none)∧v=.ref p∧rG K σ F' p b xs own∧keeps own e:=by
  cases r with
  | d x=>
    cases x with
    | tuple ds=>
      cases h
      obtain⟨a,ys,e1,e2,e3⟩:=eL.mp A
      exact⟨F,a,R,aC.refl _,fun _ h _=>h,e1,.tup e2 e3,fun p hp=>by cases hp⟩
    | list ds=>
      cases h
      obtain⟨a,ys,e1,e2,e3⟩:=dh.mp A
      exact⟨F,a,R,aC.refl _,fun _ h _=>h,e1,.lst e2 e3,fun p hp=>by cases hp⟩
    | _=>cases h
  | l ys=>
    cases h
    obtain⟨F',R',s',d',f'⟩:=A.frozen R
    obtain⟨a,ys,e1,e2,e3⟩:=dh.mp d'
    exact⟨F',a,R',s',f',e1,.lst e2 e3,fun p hp=>by cases hp⟩
  | s i=>
    obtain⟨h1,ys,h2⟩:=A
    simp only [vM,h2] at h
    cases h
    obtain⟨l,vs,e1,e2,e3,e4⟩:=R.own i _ h2
    rw [h1] at e1;cases e1
    exact⟨F,l,R,aC.refl _,fun _ h _=>h,rfl,.own h1,fun p hp=>by simp only [List.mem_singleton] at hp;subst hp;exact h2⟩
theorem qP{p:Addr}{xs:List PyData}{own:hZ}{F0:Hp}(h:rG K σ F0 p true xs own):uR K σ (G9 K p) xs own F0:=by
  intro F H s0 s1 hh
  obtain⟨vs,d,q⟩:=h.at s0 s1 hh fun _ h=>h
  have q:dS K H p vs:=q
  refine⟨fun i hi=>⟨vs,vs[i]'(by rw [←d.len];exact hi),q,List.getElem?_eq_getElem _⟩,fun i hi=>⟨vs,q,by rw [←d.len];exact hi⟩,fun i x v H' hx hy=>?_⟩
  obtain⟨rfl,hy⟩:=hy
  obtain⟨w,g1,g2⟩:=d.get hx
  have e:=hy vs q
  rw [g1] at e;cases e
  exact⟨F,aC.refl _,aC.refl _,s1,fun _ h _=>h,g2⟩
theorem zp{p:Addr}{xs:List PyData}{own:hZ}{F0:Hp}(h:rG K σ F0 p false xs own):uR K σ (G_ K p) xs own F0:=by
  intro F H s0 s1 hh
  obtain⟨vs,d,q⟩:=h.at s0 s1 hh fun _ h=>h
  have q:cm K H p vs:=q
  refine⟨fun i hi=>⟨vs,vs[i]'(by rw [←d.len];exact hi),q,List.getElem?_eq_getElem _⟩,fun i hi=>⟨vs,q,by rw [←d.len];exact hi⟩,fun i x v H' hx hy=>?_⟩
  obtain⟨rfl,hy⟩:=hy
  obtain⟨w,g1,g2⟩:=d.get hx
  have e:=hy vs q
  rw [g1] at e;cases e
  exact⟨F,aC.refl _,aC.refl _,s1,fun _ h _=>h,g2⟩
theorem o8{p:Addr}{x y:V}{a b:PyData}(s1:aC F H)(hp:H p=none)(hx:DA K F a x)(hy:DA K F b y):∃F',aC H (a_ H p (.tup [x,y]))∧aC F F'∧aC F' (a_ H p (.tup [x,y]))∧(∀c,F c=none→H c≠none→F' c=none)∧DA K F' (.tuple [a,b]) (.ref p):=by
  have hF:F p=none:=s1.free hp
  have sF:aC F (a_ F p (.tup [x,y])):=aC.new hF
  refine⟨a_ F p (.tup [x,y]),aC.new hp,sF,fun b o q=>?_,fun c h n=>?_,eL.mpr ⟨p,_,rfl,.inl (.inl az),.cons (DA.mono sF hx) (.one (DA.mono sF hy))⟩⟩
  · by_cases z:b=p
    · subst z;rw [az] at q ⊢;exact q
    · rw [ar z] at q ⊢;exact s1 _ _ q
  · have z:c≠p:=fun z=>n (by rw [z];exact hp)
    rw [ar z];exact h
def jo:Nat→List PyData→List PyData
  | _,[]=>[]
  | n,x::r=>.tuple [.int n,x]::jo (n+1) r
theorem j6:∀{xs:List PyData} {n i:Nat},(jo n xs)[i]?=(xs[i]?).map fun x=>.tuple [.int ((n+i:Nat):Int),x]
  | [],n,i=>by simp [jo]
  | x::r,n,0=>by simp [jo]
  | x::r,n,i+1=>by
    simp only [jo,List.getElem?_cons_succ]
    rw [j6 (xs:=r) (n:=n+1) (i:=i)]
    congr 1
    funext y
    rw [show n+1+i=n+(i+1) by lia]
theorem ms:∀(xs:List PyData) (n:Nat),(jo n xs).length=xs.length
  | [],_=>rfl
  | x::r,n=>by simp [jo,ms r (n+1)]
theorem vg{p:Addr}{xs:List PyData}{own:hZ}{F0:Hp}(h:rG K σ F0 p true xs own):uR K σ (Dz K p) (jo 0 xs) own F0:=by
  intro F H s0 s1 hh
  obtain⟨vs,d,q⟩:=h.at s0 s1 hh fun _ h=>h
  have q:dS K H p vs:=q
  rw [ms]
  refine⟨fun i hi=>⟨vs,vs[i]'(by rw [←d.len];exact hi),q,List.getElem?_eq_getElem _⟩,fun i hi=>⟨vs,q,by rw [←d.len];exact hi⟩,fun i x v H' hx hy=>?_⟩
  obtain⟨t,y,rfl,ht,rfl,hy⟩:=hy
  rw [j6] at hx
  obtain⟨x',hx2,rfl⟩:=LF hx
  obtain⟨w,g1,g2⟩:=d.get hx2
  have e:=hy vs q
  rw [g1] at e;cases e
  exact o8 s1 ht (bR.mpr ↥1) g2
theorem vh{p:Addr}{xs:List PyData}{own:hZ}{F0:Hp}(h:rG K σ F0 p false xs own):uR K σ (DB K p) (jo 0 xs) own F0:=by
  intro F H s0 s1 hh
  obtain⟨vs,d,q⟩:=h.at s0 s1 hh fun _ h=>h
  have q:cm K H p vs:=q
  rw [ms]
  refine⟨fun i hi=>⟨vs,vs[i]'(by rw [←d.len];exact hi),q,List.getElem?_eq_getElem _⟩,fun i hi=>⟨vs,q,by rw [←d.len];exact hi⟩,fun i x v H' hx hy=>?_⟩
  obtain⟨t,y,rfl,ht,rfl,hy⟩:=hy
  rw [j6] at hx
  obtain⟨x',hx2,rfl⟩:=LF hx
  obtain⟨w,g1,g2⟩:=d.get hx2
  have e:=hy vs q
  rw [g1] at e;cases e
  exact o8 s1 ht (bR.mpr ↥1) g2
def jt:List PyData→List PyData→List PyData
  | x::r,y::s=>.tuple [x,y]::jt r s
  | _,_=>[]
theorem uL:∀{xs ys:List PyData} {i:Nat} {d:PyData},(jt xs ys)[i]?=some d→∃x y,xs[i]?=some x∧ys[i]?=some y∧d=.tuple [x,y]
  | [],ys,i,d,h=>by simp [jt] at h
  | x::r,[],i,d,h=>by simp [jt] at h
  | x::r,y::s,0,d,h=>by
    simp only [jt,List.getElem?_cons_zero] at h
    cases h;exact⟨x,y,rfl,rfl,rfl⟩
  | x::r,y::s,i+1,d,h=>by
    simp only [jt,List.getElem?_cons_succ] at h
    obtain⟨a,b,h1,h2,h3⟩:=uL h
    exact⟨a,b,by simpa using h1,by simpa using h2,h3⟩
theorem uM:∀(xs ys:List PyData),(jt xs ys).length=min xs.length ys.length
  | [],ys=>by simp [jt]
  | x::r,[]=>by simp [jt]
  | x::r,y::s=>by simp [jt,uM r s]
theorem lN{P Q:Hp→Addr→List V→Prop}{J:It}{l1 l2:Addr}{b1 b2:Bool}{xs ys:List PyData}{own1 own2:hZ}{F0:Hp}(h1:rG K σ F0 l1 b1 xs own1)(h2:rG K σ F0 l2 b2 ys own2)
    (hP:∀H vs,(if b1=true then dS K H l1 vs else cm K H l1 vs)→P H l1 vs)(hQ:∀H vs,(if b2=true then dS K H l2 vs else cm K H l2 vs)→Q H l2 vs)
    (go:∀i H vs us x y,P H l1 vs→Q H l2 us→vs[i]?=some x→us[i]?=some y→J.go i H)(stop:∀i H vs us,P H l1 vs→Q H l2 us→(vs.length≤i∨us.length≤i)→J.stop i H)
    (yld:∀i H v H',J.yld i H v H'→∃p x y,v=.ref p∧H p=none∧H'=a_ H p (.tup [x,y])∧∀xs ys,P H l1 xs→Q H l2 ys→xs[i]?=some x∧ys[i]?=some y):
    uR K σ J (jt xs ys) (own1++own2) F0:=by
  intro F H s0 s1 hh
  obtain⟨vs,d1,q1⟩:=h1.at s0 s1 hh fun _ h=>List.mem_append.mpr (.inl h)
  obtain⟨us,d2,q2⟩:=h2.at s0 s1 hh fun _ h=>List.mem_append.mpr (.inr h)
  have q1:=hP H vs q1
  have q2:=hQ H us q2
  have l1':=d1.len
  have l2':=d2.len
  rw [uM]
  refine⟨fun i hi=>go i H vs us (vs[i]'↥0) (us[i]'↥0) q1 q2 (List.getElem?_eq_getElem _) (List.getElem?_eq_getElem _),fun i hi=>stop i H vs us q1 q2 ↥0,fun i x v H' hx hy=>?_⟩
  obtain⟨t,a,b,rfl,ht,rfl,hy3⟩:=yld i H v H' hy
  obtain⟨x',y',hx2,hy',rfl⟩:=uL hx
  obtain⟨w,g1,g2⟩:=d1.get hx2
  obtain⟨w',g3,g4⟩:=d2.get hy'
  obtain⟨e1,e2⟩:=hy3 vs us q1 q2
  rw [g1] at e1;cases e1
  rw [g3] at e2;cases e2
  exact o8 s1 ht g2 g4
def bu(lo:Int)(n:Nat):List PyData:=(List.range n).map fun(i:Nat)=>.int (lo+(i:Int))
theorem vj{lo:Int}{n:Nat}{F0:Hp}:uR K σ (GV lo n) (bu lo n) [] F0:=by
  intro F H s0 s1 hh
  unfold bu
  rw [List.length_map,List.length_range]
  refine⟨fun i hi=>hi,fun i hi=>hi,fun i x v H' hx hy=>?_⟩
  obtain⟨rfl,rfl⟩:=hy
  rw [List.getElem?_map] at hx
  obtain⟨k,h1,rfl⟩:=LF hx
  have h2:=(LG h1).2
  simp at h2
  subst h2
  exact⟨F,aC.refl _,aC.refl _,s1,fun _ h _=>h,bR.mpr rfl⟩
end
inductive G7 (K:⇑0) (own:hZ) (σ0:L2.St) (F1:Hp) (P:En→Prop) (G:L2.St→Hp→Hp→En→Prop) (σ:L2.St) (H:Hp):Prop
  | mk {F:Hp} {e:En} (R:bc K F H σ e) (kp:keeps own e) (hσ:∀p∈own,σ[p.1]?=σ0[p.1]?) (sF:aC F1 F) (hf:P e) (q:G σ F H e):G7 K own σ0 F1 P G σ H
section
variable{X:Cx}{K:⇑0}{tg a b:Expr}{es:List Expr}{fa:FE}{fs:FA}{pos p tp:Pos}{k0:Nat}
def fW(fa:FE):FI:=fun e=>(fa e).bind fun p=>(vM p.2 p.1).map fun s=>(s.2.1,s.2.2,p.2)
theorem cY(hK:X.K=K)(h:PE X a (fE K fa)):PI X tg a (fI K (fW fa)):=((ue (tg:=tg) hK h).or (B5 (tg:=tg) hK h)).mono fun σ H R hh=>by
  obtain⟨F,e,items,own,e',R0,hf,q⟩:=hh
  unfold fW at hf
  obtain⟨⟨r,e1⟩,h1,hf⟩:=LD hf
  obtain⟨⟨b,xs,ow⟩,h2,hf⟩:=LF hf
  cases hf
  cases b with
  | true=>
    refine .inl ⟨F,e,r,e1,R0,h1,fun F1 H1 v X1 R1 A1=>?_⟩
    obtain⟨F2,p,R2,s2,f2,rfl,sc,kp⟩:=km R1 A1 h2
    obtain⟨vs,_,c⟩:=sc.at (aC.refl _) R2.sm (R2.held kp) fun _ h=>h
    exact⟨p,rfl,⟨vs,c⟩,q _ F2 H1 (X1.frz s2 f2) R2 kp (qP sc)⟩
  | false=>
    refine .inr ⟨F,e,r,e1,R0,h1,fun F1 H1 v X1 R1 A1=>?_⟩
    obtain⟨F2,p,R2,s2,f2,rfl,sc,kp⟩:=km R1 A1 h2
    obtain⟨vs,_,c⟩:=sc.at (aC.refl _) R2.sm (R2.held kp) fun _ h=>h
    exact⟨p,rfl,⟨vs,c⟩,q _ F2 H1 (X1.frz s2 f2) R2 kp (zp sc)⟩
def zl(fs:FA):FI:=fun e=>(fs e).bind fun p=>match p.1 with
  | [r]=>(vM p.2 r).map fun s=>(jo 0 s.2.1,s.2.2,p.2)
  | _=>none
theorem Cd(hK:X.K=K)(hg:Gl X "enumerate")(hm:X.mg "enumerate"=none)(ha:PA X [a] (fA K fs))(hs:starEach [a] X.env=[(false,eval a X.env)]):PI X (.Tuple es k0 tp) (.Call (.Name "enumerate" p) [a] [] pos) (fI K (zl fs)):=((z_ (es:=es) (k0:=k0) (tp:=tp) hK hg hm ha hs).or (Ab (es:=es) (k0:=k0) (tp:=tp) hK hg hm ha hs)).mono fun σ H R hh=>by
  obtain⟨F,e,items,own,e',R0,hf,q⟩:=hh
  unfold zl at hf
  obtain⟨⟨rs,e1⟩,h1,hf⟩:=LD hf
  match rs,h1,hf with
  | [r],h1,hf=>
  obtain⟨⟨b,xs,ow⟩,h2,hf⟩:=LF hf
  cases hf
  cases b with
  | true=>
    refine .inl ⟨F,e,_,e1,R0,h1,fun F1 H1 vs X1 R1 A1=>?_⟩
    obtain⟨v,rfl,A2⟩:=l5 A1
    obtain⟨F2,p,R2,s2,f2,rfl,sc,kp⟩:=km R1 A2 h2
    obtain⟨vs,_,c⟩:=sc.at (aC.refl _) R2.sm (R2.held kp) fun _ h=>h
    exact⟨p,rfl,⟨vs,c⟩,q _ F2 H1 (X1.frz s2 f2) R2 kp (vg sc)⟩
  | false=>
    refine .inr ⟨F,e,_,e1,R0,h1,fun F1 H1 vs X1 R1 A1=>?_⟩
    obtain⟨v,rfl,A2⟩:=l5 A1
    obtain⟨F2,p,R2,s2,f2,rfl,sc,kp⟩:=km R1 A2 h2
    obtain⟨vs,_,c⟩:=sc.at (aC.refl _) R2.sm (R2.held kp) fun _ h=>h
    exact⟨p,rfl,⟨vs,c⟩,q _ F2 H1 (X1.frz s2 f2) R2 kp (vh sc)⟩
def tR(fs:FA):FI:=fun e=>(fs e).bind fun p=>match p.1 with
  | [r,t]=>(vM p.2 r).bind fun s=>(vM p.2 t).map fun u=>(jt s.2.1 u.2.1,s.2.2++u.2.2,p.2)
  | _=>none
theorem rG.mono{σ:L2.St}{F F':Hp}{p:Addr}{b:Bool}{xs:List PyData}{own:hZ}(h:rG K σ F p b xs own)(s:aC F F'):rG K σ F' p b xs own:=by
  cases h with
  | tup h1 h2=>exact .tup (s.tup h1) (h2.mono s)
  | lst h1 h2=>exact .lst (s.seq h1) (h2.mono s)
  | own h1=>exact .own h1
theorem Ar(hK:X.K=K)(hg:Gl X "zip")(hm:X.mg "zip"=none)(ha:PA X [a,b] (fA K fs))(hs:starEach [a,b] X.env=[(false,eval a X.env),(false,eval b X.env)])(hs2:starEach [b] X.env=[(false,eval b X.env)]):PI X (.Tuple es k0 tp) (.Call (.Name "zip" p) [a,b] [] pos) (fI K (tR fs)):=
    (((Ex (es:=es) (k0:=k0) (tp:=tp) hK hg hm ha hs hs2).or (Ad (es:=es) (k0:=k0) (tp:=tp) hK hg hm ha hs hs2)).or ((Ae (es:=es) (k0:=k0) (tp:=tp) hK hg hm ha hs hs2).or (Ac (es:=es) (k0:=k0) (tp:=tp) hK hg hm ha hs hs2))).mono fun σ H R hh=>by
  obtain⟨F,e,items,own,e',R0,hf,q⟩:=hh
  unfold tR at hf
  obtain⟨⟨rs,e1⟩,h1,hf⟩:=LD hf
  match rs,h1,hf with
  | [r,t],h1,hf=>
  obtain⟨⟨b,xs,ow⟩,h2,hf⟩:=LD hf
  obtain⟨⟨b',ys,ow'⟩,h3,hf⟩:=LF hf
  cases hf
  have key:∀F1 H1 vs,eH σ F H e F1 H1 e1→bc K F1 H1 σ e1→b_ K σ H F1 H1 e1 [r,t] vs→∃p p' F2,vs=[.ref p,.ref p']∧eH σ F H e F2 H1 e1∧bc K F2 H1 σ e1∧rG K σ F2 p b xs ow∧rG K σ F2 p' b' ys ow'∧keeps (ow++ow') e1:=by
    intro F1 H1 vs X1 R1 A1
    obtain⟨v,u,rfl,a1,a2⟩:=sL A1
    obtain⟨F2,p,R2,s2,f2,rfl,sc,kp⟩:=km R1 a1 h2
    have X2:=X1.frz s2 f2
    have a2':cC K σ H F2 H1 e1 t u∨∃zs,t=.l zs∧DA K F2 (.list zs) u:=by
      cases t with
      | d x=>exact .inl (DA.mono s2 a2)
      | s i=>exact .inl a2
      | l zs=>
        obtain⟨l,ws,rfl,g1,g2,g3,g4,g5⟩:=a2
        cases hl:F2 l with
        | none=>exact .inl ⟨l,ws,rfl,g1,hl,g3,aR.mono s2 g4,g5⟩
        | some o=>
          have:=R2.sm _ _ hl
          rw [g3] at this;cases this
          exact .inr ⟨zs,rfl,dh.mpr ⟨l,ws,rfl,.inl (.inl hl),aR.mono s2 g4⟩⟩
    rcases a2' with a2' | ⟨zs,rfl,d2⟩
    · obtain⟨F3,p',R3,s3,f3,rfl,sc',kp'⟩:=km R2 a2' h3
      exact⟨p,p',F3,rfl,X2.frz s3 f3,R3,sc.mono s3,sc',fun z hz=>(LH hz).elim (kp z) (kp' z)⟩
    · cases h3
      obtain⟨p',ws,rfl,g1,g2⟩:=dh.mp d2
      exact⟨p,p',F2,rfl,X2,R2,sc,.lst g1 g2,fun z hz=>(LH hz).elim (kp z) fun h=>by cases h⟩
  have fin:∀{F2 H1:Hp} {p p':Addr},bc K F2 H1 σ e1→rG K σ F2 p b xs ow→rG K σ F2 p' b' ys ow'→keeps (ow++ow') e1→(∃vs,if b=true then dS K H1 p vs else cm K H1 p vs)∧(∃vs,if b'=true then dS K H1 p' vs else cm K H1 p' vs):=by
    intro F2 H1 p p' R2 s1 s2 kp
    obtain⟨vs,_,c⟩:=s1.at (aC.refl _) R2.sm (R2.held kp) fun _ h=>List.mem_append.mpr (.inl h)
    obtain⟨us,_,c'⟩:=s2.at (aC.refl _) R2.sm (R2.held kp) fun _ h=>List.mem_append.mpr (.inr h)
    exact⟨⟨vs,c⟩,⟨us,c'⟩⟩
  cases b with
  | false=>cases b' with
    | false=>
      refine .inl (.inl ⟨F,e,_,e1,R0,h1,fun F1 H1 vs X1 R1 A1=>?_⟩)
      obtain⟨p,p',F2,rfl,X2,R2,s1,s2,kp⟩:=key F1 H1 vs X1 R1 A1
      obtain⟨c1,c2⟩:=fin R2 s1 s2 kp
      exact⟨p,p',rfl,c1,c2,q _ F2 H1 X2 R2 kp (lN (P:=cm K) (Q:=cm K) s1 s2 (fun _ _ h=>h) (fun _ _ h=>h) (fun i H vs us x y h1 h2 h3 h4=>⟨vs,us,x,y,h1,h2,h3,h4⟩) (fun i H vs us h1 h2 h3=>⟨vs,us,h1,h2,h3⟩) fun i H v H' h=>h)⟩
    | true=>
      refine .inr (.inl ⟨F,e,_,e1,R0,h1,fun F1 H1 vs X1 R1 A1=>?_⟩)
      obtain⟨p,p',F2,rfl,X2,R2,s1,s2,kp⟩:=key F1 H1 vs X1 R1 A1
      obtain⟨c1,c2⟩:=fin R2 s1 s2 kp
      exact⟨p,p',rfl,c1,c2,q _ F2 H1 X2 R2 kp (lN (P:=cm K) (Q:=dS K) s1 s2 (fun _ _ h=>h) (fun _ _ h=>h) (fun i H vs us x y h1 h2 h3 h4=>⟨vs,us,x,y,h1,h2,h3,h4⟩) (fun i H vs us h1 h2 h3=>⟨vs,us,h1,h2,h3⟩) fun i H v H' h=>h)⟩
  | true=>cases b' with
    | false=>
      refine .inl (.inr ⟨F,e,_,e1,R0,h1,fun F1 H1 vs X1 R1 A1=>?_⟩)
      obtain⟨p,p',F2,rfl,X2,R2,s1,s2,kp⟩:=key F1 H1 vs X1 R1 A1
      obtain⟨c1,c2⟩:=fin R2 s1 s2 kp
      exact⟨p,p',rfl,c1,c2,q _ F2 H1 X2 R2 kp (lN (P:=dS K) (Q:=cm K) s1 s2 (fun _ _ h=>h) (fun _ _ h=>h) (fun i H vs us x y h1 h2 h3 h4=>⟨vs,us,x,y,h1,h2,h3,h4⟩) (fun i H vs us h1 h2 h3=>⟨vs,us,h1,h2,h3⟩) fun i H v H' h=>h)⟩
    | true=>
      refine .inr (.inr ⟨F,e,_,e1,R0,h1,fun F1 H1 vs X1 R1 A1=>?_⟩)
      obtain⟨p,p',F2,rfl,X2,R2,s1,s2,kp⟩:=key F1 H1 vs X1 R1 A1
      obtain⟨c1,c2⟩:=fin R2 s1 s2 kp
      exact⟨p,p',rfl,c1,c2,q _ F2 H1 X2 R2 kp (lN (P:=dS K) (Q:=dS K) s1 s2 (fun _ _ h=>h) (fun _ _ h=>h) (fun i H vs us x y h1 h2 h3 h4=>⟨vs,us,x,y,h1,h2,h3,h4⟩) (fun i H vs us h1 h2 h3=>⟨vs,us,h1,h2,h3⟩) fun i H v H' h=>h)⟩
def AC(j:Int):Bool:=decide (-1000000≤j)&&decide (j≤1000000)
theorem AD{j:Int}(h:AC j=true): -1000000≤j∧j≤1000000:=by
  unfold AC at h
  rw [Bool.and_eq_true,decide_eq_true_iff,decide_eq_true_iff] at h
  exact h
def c_(fs:FA):FI:=fun e=>(fs e).bind fun p=>match p.1 with
  | [r]=>(bA r).bind fun j=>if AC j=true then some (bu 0 j.toNat,[],p.2) else none
  | _=>none
theorem de(hg:Gl X "range")(hm:X.mg "range"=none)(ha:PA X [a] (fA K fs))(hs:starEach [a] X.env=[(false,eval a X.env)]):PI X tg (.Call (.Name "range" p) [a] [] pos) (fI K (c_ fs)):=(x_ hg hm ha hs).mono fun σ H R hh=>by
  obtain⟨F,e,items,own,e',R0,hf,q⟩:=hh
  unfold c_ at hf
  obtain⟨⟨rs,e1⟩,h1,hf⟩:=LD hf
  match rs,h1,hf with
  | [r],h1,hf=>
  obtain⟨j,h2,hf⟩:=LD hf
  split at hf
  case isFalse=>cases hf
  case isTrue hj=>
  cases hf
  refine⟨F,e,_,e1,R0,h1,fun F1 H1 vs X1 R1 A1=>?_⟩
  obtain⟨v,rfl,A2⟩:=l5 A1
  have:=AD hj
  exact⟨j,by rw [cg A2 h2],by lia,by lia,q _ F1 H1 X1 R1 (fun _ h=>by cases h) vj⟩
open Classical in
def iz(own:hZ)(g:FG)(f:FS):List PyData→FS
  | [],e=>some (.nx e)
  | x::r,e=>(g x e).bind fun e1=>(f e1).bind fun fl=>match fl with
    | .nx e2=>if keeps own e2 then iz own g f r e2 else none
    | .ct e2=>if keeps own e2 then iz own g f r e2 else none
    | .bk e2=>some (.nx e2)
    | .rt v e2=>some (.rt v e2)
def cN(W:List Nat)(fi:FI)(g:FG)(f:FS):FS:=fun e=>(fi e).bind fun p=>if (p.2.1.all fun q=> !W.contains q.1)=true then iz p.2.1 g f p.1 p.2.2 else none
theorem dC{W1 W2:List Nat}{iter:Expr}{body:List Stmt}{fi:FI}{g:FG}{f:FS}(hp:PassesOwn (model X.prog X.w) X.A X.env X.xe)(hc:X.calm=true)(hi:PI X tg iter (fI K fi))(hg:PG X tg (fG K g W1))(hb:lp X body (fS K f W2))(hs:∀x,foldedSetIterable iter X.env x=pure x):
    PS X (.For tg iter body [] pos) (fS K (cN (W1++W2) fi g f) (W1++W2)):=(Ey hp hc hi hg hb hs).mono fun D σ0 H0 hh=>by
  obtain⟨F0,e0,fl,R0,hf,q0⟩:=hh
  unfold cN at hf
  obtain⟨⟨items,own,e1⟩,h1,hf⟩:=LD hf
  dsimp only at hf
  split at hf
  case isFalse=>cases hf
  case isTrue hW=>
  have hW':∀p∈own,p.1∉W1++W2:=fun p hp=>by
    have:=List.all_eq_true.mp hW p hp
    simpa using this
  refine⟨F0,e0,items,own,e1,R0,h1,fun J F1 H1 X1 R1 kp ok=>?_⟩
  have s1:∀j,j∈W1→j∈W1++W2:=fun j h=>List.mem_append.mpr (.inl h)
  have s2:∀j,j∈W2→j∈W1++W2:=fun j h=>List.mem_append.mpr (.inr h)
  have q1:oH K (W1++W2) σ0 F1 H1 e1 D fl:=q0.later (W1:=[]) X1.s (fun j h=>by cases h) fun j h=>h
  refine⟨fun i m σ H=>m=items.length - i∧i≤items.length∧G7 K own σ0 F1 (fun e=>iz own g f (items.drop i) e=some fl) (fun σ F H e=>oH K (W1++W2) σ F H e D fl) σ H,
    ⟨items.length,by simp,Nat.zero_le _,.mk R1 kp ↥4 (aC.refl _) hf q1⟩,?_⟩
  rintro i m σ H ⟨rfl,hi,⟨R,kp,hσ,sF,hf,q⟩⟩
  rename_i F e
  have held:xD K σ0 F H own:=fun p hp=>by
    obtain⟨l,vs,g1,g2⟩:=R.held kp p hp
    exact⟨l,vs,by rw [←hσ p hp];exact g1,g2⟩
  obtain⟨go,stop,yld⟩:=ok F H sF R.sm held
  by_cases hlt:i < items.length
  · have hd:items.drop i=items[i]::items.drop (i+1):=List.drop_eq_getElem_cons hlt
    rw [hd] at hf
    unfold iz at hf
    obtain⟨e2,h2,hf⟩:=LD hf
    obtain⟨fl2,h3,hf⟩:=LD hf
    refine .inr ⟨go i hlt,G7 K own σ0 F1 (fun e=>iz own g f (items.drop (i+1)) e=some fl) (fun σ F H e=>oH K (W1++W2) σ F H e D fl),
      fun σ' H' r=>⟨items.length - (i+1),by lia,rfl,hlt,r⟩,fun x H' hy=>?_⟩
    obtain⟨F',sH,sF',sm',fz,hx⟩:=yld i items[i] x H' (List.getElem?_eq_getElem hlt) hy
    obtain⟨R',X'⟩:=R.step sH sF' sm' fz
    refine⟨F',e,items[i],e2,R',hx,h2,fun σ2 x2 R2=>⟨F',e2,fl2,R2,h3,?_⟩⟩
    have q2:oH K (W1++W2) σ2 F' H' e2 D fl:=(q.later (W1:=[]) (W2:=W1++W2) X'.s (fun j h=>by cases h) fun j h=>h).later x2 s1 fun j h=>h
    have w2:∀p∈own,σ2[p.1]?=σ0[p.1]?:=fun p hp=>(x2.wr p.1 fun z=>hW' p hp (s1 _ z)).trans (hσ p hp)
    cases fl2 with
    | nx e3=>
      intro F3 H3 σ3 x3 R3
      dsimp only at hf
      split at hf
      case isFalse=>cases hf
      case isTrue kp3=>
      exact .mk R3 kp3 (fun p hp=>(x3.wr p.1 fun z=>hW' p hp (s2 _ z)).trans (w2 p hp)) (sF.trans (sF'.trans x3.sf)) hf (q2.later x3 s2 fun j h=>h)
    | ct e3=>
      intro F3 H3 σ3 x3 R3
      dsimp only at hf
      split at hf
      case isFalse=>cases hf
      case isTrue kp3=>
      exact .mk R3 kp3 (fun p hp=>(x3.wr p.1 fun z=>hW' p hp (s2 _ z)).trans (w2 p hp)) (sF.trans (sF'.trans x3.sf)) hf (q2.later x3 s2 fun j h=>h)
    | bk e3=>
      cases hf
      exact fun F3 H3 σ3 x3 R3=>q2 F3 H3 σ3 (x3.mono s2) R3
    | rt r e3=>
      cases hf
      exact fun F3 H3 σ3 v x3 R3 A3=>q2 F3 H3 σ3 v (x3.mono s2) R3 A3
  · have hd:items.drop i=[]:=List.drop_eq_nil_of_le ↥0
    rw [hd] at hf
    cases hf
    exact .inl ⟨stop i ↥0,q F H σ dk.refl R⟩
end
def vf:Option (Option Sv)→Bool
  | some (some (.l _))=>true
  | _=>false
theorem wJ{s:Option (Option Sv)}:vf s=true↔ ∃xs,s=some (some (.l xs)):=by
  unfold vf
  split
  · simp
  · rename_i h
    constructor
    · intro z;cases z
    · rintro⟨xs,rfl⟩;exact absurd rfl (h xs)
def mj(pos:Nat→Option Nat)(ei e:En):En:=e.mapIdx fun i s=>match s with
  | some (.l xs)=>match pos i with
    | some k=>(ei[k]?).join
    | none=>some (.l xs)
  | s=>s
theorem bF{pos:Nat→Option Nat}{ei e:En}{i:Nat}:(mj pos ei e)[i]?=(e[i]?).map fun s=>match s with
  | some (.l xs)=>match pos i with
    | some k=>(ei[k]?).join
    | none=>some (.l xs)
  | s=>s:=by unfold mj;rw [List.getElem?_mapIdx]
structure sZ (σ:L2.St) (e:En) (σi:L2.St) (ei:En) (pos:Nat→Option Nat):Prop where
  a:∀(i k:Nat) (xs:List PyData),e[i]?=some (some (.l xs))→pos i=some k→σi[k]?=σ[i]?
  b:∀(k:Nat) (ys:List PyData),ei[k]?=some (some (.l ys))→∃(i:Nat) (xs:List PyData),e[i]?=some (some (.l xs))∧pos i=some k∧σi[k]?=σ[i]?
section
variable{K:⇑0}{σ σi σi':L2.St}{F H F' H':Hp}{e ei ei':En}{pos:Nat→Option Nat}
def Fs(e:En):Prop:=∀(i:Nat) (xss:List (List PyData)),e[i]?≠some (some (.n xss))
theorem sZ.own(s:sZ σ e σi ei pos)(hn:Fs ei){a:Addr}{H H':Hp}(h:cn σi ei H a):∃(i k:Nat) (xs:List PyData),e[i]?=some (some (.l xs))∧pos i=some k∧σ[i]?=some (some (.ref a)):=by
  obtain⟨k,⟨ys,h1,h2⟩ | ⟨xss,_,_,h1,_⟩⟩:=h
  · obtain⟨i,xs,g1,g2,g3⟩:=s.b k ys h1
    exact⟨i,k,xs,g1,g2,by rw [←g3];exact h2⟩
  · exact absurd h1 (hn k xss)
theorem pT(R:bc K F H σ e)(s:sZ σ e σi ei pos)(hnn:Fs ei)(sf:aC F F')(dom:∀a,H' a=none→H a=none)(fr:∀a vs,F a=none→H a=some (.lst vs)→¬cn σi ei H a→F' a=none)(lst:∀a vs,H a=some (.lst vs)→∃vs',H' a=some (.lst vs'))
    (tmp:∀a o,H a=some o→¬cn σi ei H a→H' a=some o)(fd:∀a m,F a=none→H a=some (.dK m)→¬cn σi ei H a→F' a=none)(R':bc K F' H' σi' ei')(hσ:∀(i k:Nat) (xs:List PyData),e[i]?=some (some (.l xs))→pos i=some k→σi'[k]?=σi[k]?)(hsh:∀(i k:Nat) (xs:List PyData),e[i]?=some (some (.l xs))→pos i=some k→∃ys,ei'[k]?=some (some (.l ys))):
    bc K F' H' σ (mj pos ei' e)∧eH σ F H e F' H' (mj pos ei' e)∧∀a,cn σ (mj pos ei' e) H' a→cn σ e H a:=by
  have shp:∀i:Nat,(∃xs,(mj pos ei' e)[i]?=some (some (.l xs)))↔ (∃xs,e[i]?=some (some (.l xs))):=by
    intro i
    rw [bF]
    match h:e[i]? with
    | none=>simp
    | some none=>simp
    | some (some (.d x))=>simp
    | some (some (.n x))=>simp
    | some (some (.l xs))=>
      simp only [Option.map_some]
      constructor
      · intro _;exact⟨xs,rfl⟩
      · intro _
        match hp:pos i with
        | none=>exact⟨xs,rfl⟩
        | some k=>
          obtain⟨ys,g⟩:=hsh i k xs h hp
          exact⟨ys,by show some ((ei'[k]?).join)=_;rw [g];rfl⟩
  have oth:∀(i:Nat) (s:Sv),(∀xs,s≠.l xs)→((mj pos ei' e)[i]?=some (some s)↔ e[i]?=some (some s)):=by
    intro i s hs
    constructor
    · intro h
      rw [bF] at h
      match h1:e[i]?,h with
      | some (some (.d y)),h=>exact h
      | some (some (.n y)),h=>exact h
      | some (some (.l ys)),h=>
        simp only [Option.map_some,Option.some.injEq] at h
        match hp:pos i,h with
        | none,h=>cases h;exact absurd rfl (hs _)
        | some k,h=>
          obtain⟨zs,g⟩:=hsh i k ys h1 hp
          change (ei'[k]?).join=_ at h
          rw [g] at h;cases h;exact absurd rfl (hs _)
      | some none,h=>simp at h
      | none,h=>simp at h
    · intro h
      rw [bF,h]
      cases s with
      | d y=>rfl
      | n y=>rfl
      | l y=>exact absurd rfl (hs y)
  have out:∀i a,Fp σ e H i a→(∀k xs,e[i]?=some (some (.l xs))→pos i≠some k)→¬cn σi ei H a:=by
    intro i a hi hp z
    obtain⟨j,k,ws,d1,d2,d3⟩:=s.own hnn (H':=H') z
    have:i=j:=R.fp i j a hi (.inl ⟨ws,d1,d3⟩)
    subst this
    exact hp k ws d1 d2
  have keep:∀i a o,Fp σ e H i a→(∀k xs,e[i]?=some (some (.l xs))→pos i≠some k)→H a=some o→H' a=some o:=fun i a o hi hp ha=>tmp a o ha (out i a hi hp)
  have sown:∀a,cn σi ei H a→cn σ e H a:=fun a z=>by
    obtain⟨j,k,ws,d1,d2,d3⟩:=s.own hnn (H':=H') z
    exact⟨j,.inl ⟨ws,d1,d3⟩⟩
  have fs:∀i a,Fp σ (mj pos ei' e) H' i a↔ Fp σ e H i a:=by
    intro i a
    have key:∀xss l,e[i]?=some (some (.n xss))→σ[i]?=some (some (.ref l))→H' l=H l:=fun xss l h1 h2=>by
      obtain⟨l',bs,g1,g2,g3,_⟩:=R.nst i xss h1
      rw [h2] at g1;cases g1
      rw [g3]
      exact keep i l _ (.inr ⟨xss,l,bs,h1,h2,g3,.inl rfl⟩) (fun k xs z=>by rw [h1] at z;cases z) g3
    constructor
    · rintro(⟨xs,h1,h2⟩ | ⟨xss,l,bs,h1,h2,h3,h4⟩)
      · obtain⟨ys,h⟩:=(shp i).mp ⟨xs,h1⟩
        exact .inl ⟨ys,h,h2⟩
      · have h1':=(oth i (.n xss) (fun _ z=>nomatch z)).mp h1
        exact .inr ⟨xss,l,bs,h1',h2,by rw [←key xss l h1' h2];exact h3,h4⟩
    · rintro(⟨xs,h1,h2⟩ | ⟨xss,l,bs,h1,h2,h3,h4⟩)
      · obtain⟨ys,h⟩:=(shp i).mpr ⟨xs,h1⟩
        exact .inl ⟨ys,h,h2⟩
      · exact .inr ⟨xss,l,bs,(oth i (.n xss) (fun _ z=>nomatch z)).mpr h1,h2,by rw [key xss l h1 h2];exact h3,h4⟩
  refine⟨⟨R'.sm,?_,fun i x h=>?_,fun i xs h=>?_,fun i xss h=>?_,fun i j a h1 h2=>R.fp i j a ((fs i a).mp h1) ((fs j a).mp h2)⟩,⟨sf,dom,fun a vs h1 h2 n=>fr a vs h1 h2 fun z=>n (sown a z),lst,fun a o h n=>tmp a o h fun z=>n (sown a z),shp,fun a ⟨i,h⟩=>.inl ⟨i,(fs i a).mp h⟩,fun a m h1 h2 n=>fd a m h1 h2 fun z=>n (sown a z)⟩,fun a ⟨i,h⟩=>⟨i,(fs i a).mp h⟩⟩
  · unfold mj;rw [List.length_mapIdx];exact R.len
  · obtain⟨v,g1,g2⟩:=R.dat i x ((oth i (.d x) (fun _ z=>nomatch z)).mp h)
    exact⟨v,g1,DA.mono sf g2⟩
  · obtain⟨ys,h1⟩:=(shp i).mp ⟨xs,h⟩
    obtain⟨l,vs,g1,g2,g3,g4⟩:=R.own i ys h1
    rw [bF,h1] at h
    simp only [Option.map_some,Option.some.injEq] at h
    match hp:pos i,h with
    | none,h=>
      cases h
      have np:∀k xs,e[i]?=some (some (Sv.l xs))→pos i≠some k:=fun k xs _ z=>by rw [hp] at z;cases z
      have fi:Fp σ e H i l:=.inl ⟨_,h1,g1⟩
      exact⟨l,vs,g1,fr l vs g2 g3 (out i l fi np),keep i l _ fi np g3,g4.mono sf⟩
    | some k,h=>
      obtain⟨zs,c1⟩:=hsh i k ys h1 hp
      change (ei'[k]?).join=_ at h
      rw [c1] at h;cases h
      obtain⟨l',vs',d1,d2,d3,d4⟩:=R'.own k _ c1
      rw [hσ i k ys h1 hp,s.a i k ys h1 hp] at d1
      exact⟨l',vs',d1,d2,d3,d4⟩
  · have h1:=(oth i (.n xss) (fun _ z=>nomatch z)).mp h
    obtain⟨l,bs,g1,g2,g3,g4,g5,g6,g7⟩:=R.nst i xss h1
    have np:∀k xs,e[i]?=some (some (Sv.l xs))→pos i≠some k:=fun k xs z=>by rw [h1] at z;cases z
    have fi:Fp σ e H i l:=.inr ⟨xss,l,bs,h1,g1,g3,.inl rfl⟩
    refine⟨l,bs,g1,fr l _ g2 g3 (out i l fi np),keep i l _ fi np g3,g4,g5,g6,fun k b ys q1 q2=>?_⟩
    obtain⟨c1,us,c2,c3⟩:=g7 k b ys q1 q2
    have fb:Fp σ e H i b:=.inr ⟨xss,l,bs,h1,g1,g3,.inr (LK q1)⟩
    exact⟨fr b _ c1 c2 (out i b fb np),us,keep i b _ fb np c2,c3.mono sf⟩
end
def cc(e:En):List Rv→Option (List Sv)
  | []=>some []
  | .d x::r=>(cc e r).map (.d x::·)
  | .l xs::r=>(cc e r).map (.d (.list xs)::·)
  | .s i::r=>match e[i]? with
    | some (some (.l xs))=>(cc e r).map (.l xs::·)
    | _=>none
def aN:List Rv→List Nat
  | []=>[]
  | .s i::r=>i::aN r
  | .d _::r=>aN r
  | .l _::r=>aN r
def k8(rs:List Rv)(i:Nat):Option Nat:=rs.findIdx? fun r=>match r with
  | .s j=>j==i
  | _=>false
def noS:Rv→Prop
  | .s _=>False
  | _=>True
abbrev FM:=List Sv→Option (Rv × List Sv)
def bo(K:⇑0)(n:Nat)(m:FM):Sp:=fun vs H Q _=>vs.length=n∧∃F as r as',bc K F H (vs.map some) (as.map some)∧Fs (as.map some)∧m as=some (r,as')∧noS r∧
  ∀F' H' v,eH (vs.map some) F H (as.map some) F' H' (as'.map some)→bc K F' H' (vs.map some) (as'.map some)→cC K (vs.map some) H F' H' (as'.map some) r v→Q v H'
def bi:List Rv→List Sv→Bool
  | [],[]=>true
  | .s _::r,.l _::s=>bi r s
  | .d _::r,_::s=>bi r s
  | .l _::r,_::s=>bi r s
  | _,_=>false
def sj:Rv→Bool
  | .s _=>false
  | _=>true
def dI:List Rv→List Sv→En→En
  | .s i::r,.l ys::s,e=>dI r s (e.set i (some (.l ys)))
  | .d _::r,_::s,e=>dI r s e
  | .l _::r,_::s,e=>dI r s e
  | _,_,e=>e
def bM(n:Nat)(m:FM)(fs:FA):FE:=fun e=>(fs e).bind fun p=>(cc p.2 p.1).bind fun as=>(m as).bind fun z=>if p.1.length=n∧(aN p.1).Nodup∧bi p.1 z.2=true∧sj z.1=true then some (z.1,dI p.1 z.2 p.2) else none
theorem jd:∀{rs:List Rv} {as:List Sv},bi rs as=true→∀(k i:Nat),rs[k]?=some (.s i)→∃ys,as[k]?=some (.l ys)
  | [],[],_,k,i,h=>by simp at h
  | .s j::r,.l ys::s,h,k,i,hk=>by
    cases k with
    | zero=>exact⟨ys,rfl⟩
    | succ k=>simpa using jd (rs:=r) (as:=s) (by simpa [bi] using h) k i (by simpa using hk)
  | .d x::r,y::s,h,k,i,hk=>by
    cases k with
    | zero=>simp at hk
    | succ k=>simpa using jd (rs:=r) (as:=s) (by simpa [bi] using h) k i (by simpa using hk)
  | .l x::r,y::s,h,k,i,hk=>by
    cases k with
    | zero=>simp at hk
    | succ k=>simpa using jd (rs:=r) (as:=s) (by simpa [bi] using h) k i (by simpa using hk)
  | .s _::_,.d _::_,h,_,_,_=>by simp [bi] at h
  | .s _::_,[],h,_,_,_=>by simp [bi] at h
  | .d _::_,[],h,_,_,_=>by simp [bi] at h
  | .l _::_,[],h,_,_,_=>by simp [bi] at h
theorem mJ{r0:Rv}{rs:List Rv}{i:Nat}:k8 (r0::rs) i=if (match r0 with | .s j=>j==i | _=>false)=true then some 0 else(k8 rs i).map (· +1):=by
  unfold k8;rw [List.findIdx?_cons]
theorem mK{rs:List Rv}{i k:Nat}(h:k8 rs i=some k):rs[k]?=some (.s i):=by
  unfold k8 at h
  rw [List.findIdx?_eq_some_iff_getElem] at h
  obtain⟨hk,h1,_⟩:=h
  rw [List.getElem?_eq_getElem hk]
  split at h1
  · rename_i heq
    rw [heq]
    have:=eq_of_beq h1
    rw [this]
  · cases h1
theorem gv:∀{rs:List Rv} {i:Nat},i∈aN rs↔ Rv.s i∈rs
  | [],i=>by simp [aN]
  | .s j::r,i=>by simp [aN,gv (rs:=r)]
  | .d x::r,i=>by simp [aN,gv (rs:=r)]
  | .l x::r,i=>by simp [aN,gv (rs:=r)]
theorem hR:∀{rs:List Rv} {i k j:Nat},(aN rs).Nodup→rs[k]?=some (.s i)→rs[j]?=some (.s i)→k=j
  | [],i,k,j,_,h,_=>by simp at h
  | .s m::r,i,k,j,hn,h1,h2=>by
    simp only [aN,List.nodup_cons] at hn
    cases k with
    | zero=>
      simp at h1;subst h1
      cases j with
      | zero=>rfl
      | succ j=>exact absurd (gv.mpr (LK (by simpa using h2))) hn.1
    | succ k=>
      cases j with
      | zero=>
        simp at h2;subst h2
        exact absurd (gv.mpr (LK (by simpa using h1))) hn.1
      | succ j=>
        have:=hR (rs:=r) (i:=i) (k:=k) (j:=j) hn.2 (by simpa using h1) (by simpa using h2)
        lia
  | .d x::r,i,k,j,hn,h1,h2=>by
    cases k with
    | zero=>simp at h1
    | succ k=>
      cases j with
      | zero=>simp at h2
      | succ j=>
        have:=hR (rs:=r) (i:=i) (k:=k) (j:=j) (by simpa [aN] using hn) (by simpa using h1) (by simpa using h2)
        lia
  | .l x::r,i,k,j,hn,h1,h2=>by
    cases k with
    | zero=>simp at h1
    | succ k=>
      cases j with
      | zero=>simp at h2
      | succ j=>
        have:=hR (rs:=r) (i:=i) (k:=k) (j:=j) (by simpa [aN] using hn) (by simpa using h1) (by simpa using h2)
        lia
theorem Ag{rs:List Rv}{i:Nat}(h:i∉aN rs):k8 rs i=none:=by
  unfold k8
  rw [List.findIdx?_eq_none_iff]
  intro r hr
  cases r with
  | d x=>rfl
  | l x=>rfl
  | s j=>
    have:j≠i:=fun z=>h (by rw [←z];exact gv.mpr hr)
    simpa using this
theorem og:∀{rs:List Rv} {as:List Sv} {e:En},(aN rs).Nodup→bi rs as=true→(∀j∈aN rs,∃xs,e[j]?=some (some (.l xs)))→dI rs as e=mj (k8 rs) (as.map some) e
  | [],[],e,_,_,_=>by
    refine List.ext_getElem? fun i=>?_
    rw [bF]
    have:k8 [] i=none:=rfl
    rw [this]
    simp only [dI]
    match e[i]? with
    | none=>rfl
    | some none=>rfl
    | some (some (.d x))=>rfl
    | some (some (.l x))=>rfl
    | some (some (.n x))=>rfl
  | .d x::r,y::s,e,hn,hl,hs=>by
    rw [show dI (.d x::r) (y::s) e=dI r s e from rfl,og (by simpa [aN] using hn) (by simpa [bi] using hl) (fun j hj=>hs j (by simpa [aN] using hj))]
    refine List.ext_getElem? fun i=>?_
    rw [bF,bF,mJ]
    cases k8 r i<;>simp
  | .l x::r,y::s,e,hn,hl,hs=>by
    rw [show dI (.l x::r) (y::s) e=dI r s e from rfl,og (by simpa [aN] using hn) (by simpa [bi] using hl) (fun j hj=>hs j (by simpa [aN] using hj))]
    refine List.ext_getElem? fun i=>?_
    rw [bF,bF,mJ]
    cases k8 r i<;>simp
  | .s k::r,.l ys::s,e,hn,hl,hs=>by
    simp only [aN,List.nodup_cons] at hn
    obtain⟨xs,hk⟩:=hs k (by simp [aN])
    have hlt:k < e.length:=(LG hk).1
    rw [show dI (.s k::r) (.l ys::s) e=dI r s (e.set k (some (.l ys))) from rfl,og hn.2 (by simpa [bi] using hl) (fun j hj=>by
      have z:k≠j:=fun z=>hn.1 (by rw [z];exact hj)
      rw [List.getElem?_set_ne z]
      exact hs j (by simp [aN,hj]))]
    refine List.ext_getElem? fun i=>?_
    rw [bF,bF,mJ]
    by_cases z:k=i
    · subst z
      rw [List.getElem?_set_self hlt,hk,Ag hn.1]
      simp
    · rw [List.getElem?_set_ne z]
      have:((match (Rv.s k) with | .s j=>j==i | _=>false)=true)=False:=by simp [z]
      simp only [this,if_false]
      cases k8 r i<;>simp
  | .s _::_,.d _::_,_,_,h,_=>by simp [bi] at h
  | .s _::_,.n _::_,_,_,h,_=>by simp [bi] at h
  | .s _::_,[],_,_,h,_=>by simp [bi] at h
  | .d _::_,[],_,_,h,_=>by simp [bi] at h
  | .l _::_,[],_,_,h,_=>by simp [bi] at h
  | [],_::_,_,_,h,_=>by simp [bi] at h
theorem gb{e:En}:∀{rs:List Rv} {as:List Sv},cc e rs=some as→∀j∈aN rs,∃xs,e[j]?=some (some (.l xs))
  | [],_,_,j,h=>by simp [aN] at h
  | .d x::rs,as,q,j,h=>by
    obtain⟨as',q1,rfl⟩:=LF q
    exact gb q1 j (by simpa [aN] using h)
  | .l x::rs,as,q,j,h=>by
    obtain⟨as',q1,rfl⟩:=LF q
    exact gb q1 j (by simpa [aN] using h)
  | .s k::rs,as,q,j,h=>by
    unfold cc at q
    match he:e[k]?,q with
    | some (some (.l xs)),q=>
      obtain⟨as',q1,rfl⟩:=LF q
      simp only [aN,List.mem_cons] at h
      rcases h with rfl | h
      · exact⟨xs,he⟩
      · exact gb q1 j h
theorem lq{e:En}:∀{rs:List Rv} {as:List Sv} {k i:Nat},cc e rs=some as→rs[k]?=some (.s i)→∃xs,as[k]?=some (.l xs)
  | [],_,k,i,_,h=>by simp at h
  | .d x::rs,as,k,i,q,h=>by
    obtain⟨as',q1,rfl⟩:=LF q
    cases k with
    | zero=>simp at h
    | succ k=>simpa using lq (k:=k) (i:=i) q1 (by simpa using h)
  | .l x::rs,as,k,i,q,h=>by
    obtain⟨as',q1,rfl⟩:=LF q
    cases k with
    | zero=>simp at h
    | succ k=>simpa using lq (k:=k) (i:=i) q1 (by simpa using h)
  | .s j::rs,as,k,i,q,h=>by
    unfold cc at q
    match he:e[j]?,q with
    | some (some (.l xs)),q=>
      obtain⟨as',q1,rfl⟩:=LF q
      cases k with
      | zero=>exact⟨xs,rfl⟩
      | succ k=>simpa using lq (k:=k) (i:=i) q1 (by simpa using h)
section
variable{X:Cx}{K:⇑0}{σ:L2.St}{H0 H:Hp}{e:En}
theorem nY:∀{rs:List Rv} {vs:List V} {as:List Sv} {F:Hp},bc K F H σ e→b_ K σ H0 F H e rs vs→cc e rs=some as→
    ∃F',bc K F' H σ e∧aC F F'∧(∀a,F a=none→H0 a≠none→F' a=none)∧vs.length=as.length∧rs.length=as.length∧
      (∀(k:Nat) (x:PyData),as[k]?=some (.d x)→∃v,vs[k]?=some v∧DA K F' x v)∧∀(k:Nat) (xs:List PyData),as[k]?=some (.l xs)→∃i,rs[k]?=some (.s i)∧e[i]?=some (some (.l xs))∧∃v,vs[k]?=some v∧σ[i]?=some (some v)
  | [],vs,as,F,R,h,q=>by
    cases q
    have h':vs=[]:=h
    subst h'
    exact⟨F,R,aC.refl _,fun _ h _=>h,rfl,rfl,fun k x h=>by simp at h,fun k x h=>by simp at h⟩
  | .d x::rs,_,as,F,R,h,q=>by
    obtain⟨v,ws,rfl,h1,h2⟩:=h
    obtain⟨as',q1,rfl⟩:=LF q
    obtain⟨F',R',s',f',l1,l2,d',o'⟩:=nY R h2 q1
    refine⟨F',R',s',f',by simp [l1],by simp [l2],fun k y hk=>?_,fun k ys hk=>?_⟩
    · cases k with
      | zero=>simp at hk;subst hk;exact⟨v,rfl,DA.mono s' h1⟩
      | succ k=>simpa using d' k y (by simpa using hk)
    · cases k with
      | zero=>simp at hk
      | succ k=>simpa using o' k ys (by simpa using hk)
  | .l xs::rs,_,as,F,R,h,q=>by
    obtain⟨v,ws,rfl,h1,h2⟩:=h
    obtain⟨as',q1,rfl⟩:=LF q
    obtain⟨F',R',s',f',l1,l2,d',o'⟩:=nY R h2 q1
    have key:∃F2,bc K F2 H σ e∧aC F' F2∧(∀a,F' a=none→H0 a≠none→F2 a=none)∧DA K F2 (.list xs) v:=by
      obtain⟨l,us,rfl,g1,g2,g3,g4,g5⟩:=h1
      cases hl:F' l with
      | none=>
        have h1':cC K σ H0 F' H e (.l xs) (.ref l):=⟨l,us,rfl,g1,hl,g3,aR.mono s' g4,g5⟩
        obtain⟨F2,R2,s2,d2,f2⟩:=h1'.frozen R'
        exact⟨F2,R2,s2,f2,d2⟩
      | some o=>
        have:=R'.sm _ _ hl
        rw [g3] at this;cases this
        exact⟨F',R',aC.refl _,fun _ h _=>h,dh.mpr ⟨l,us,rfl,.inl (.inl hl),aR.mono s' g4⟩⟩
    obtain⟨F2,R2,s2,f2,d2⟩:=key
    refine⟨F2,R2,s'.trans s2,fun a ha hn=>f2 a (f' a ha hn) hn,by simp [l1],by simp [l2],fun k y hk=>?_,fun k ys hk=>?_⟩
    · cases k with
      | zero=>simp at hk;subst hk;exact⟨v,rfl,d2⟩
      | succ k=>
        obtain⟨u,c1,c2⟩:=d' k y (by simpa using hk)
        exact⟨u,by simpa using c1,DA.mono s2 c2⟩
    · cases k with
      | zero=>simp at hk
      | succ k=>simpa using o' k ys (by simpa using hk)
  | .s i::rs,_,as,F,R,h,q=>by
    obtain⟨v,ws,rfl,h1,h2⟩:=h
    unfold cc at q
    match he:e[i]?,q with
    | some (some (.l xs)),q=>
      obtain⟨as',q1,rfl⟩:=LF q
      obtain⟨F',R',s',f',l1,l2,d',o'⟩:=nY R h2 q1
      refine⟨F',R',s',f',by simp [l1],by simp [l2],fun k y hk=>?_,fun k ys hk=>?_⟩
      · cases k with
        | zero=>simp at hk
        | succ k=>simpa using d' k y (by simpa using hk)
      · cases k with
        | zero=>simp at hk;subst hk;exact⟨i,rfl,he,v,rfl,h1.1⟩
        | succ k=>simpa using o' k ys (by simpa using hk)
theorem gh{α:Type}{l:List α}{k:Nat}{x:α}:(l.map some)[k]?=some (some x)↔ l[k]?=some x:=by
  rw [List.getElem?_map]
  cases l[k]?<;>simp
theorem cC.noS{σ':L2.St}{e':En}{F H:Hp}{r:Rv}{v:V}(h:cC K σ' H0 F H e' r v)(n:L2.noS r)(ho:∀a,cn σ e H a→H0 a≠none):cC K σ H0 F H e r v:=by
  cases r with
  | d x=>exact h
  | l xs=>
    obtain⟨l,vs,e1,h1,h2,h3,h4,_⟩:=h
    exact⟨l,vs,e1,h1,h2,h3,h4,fun z=>ho l z h1⟩
  | s i=>exact absurd n (by simp [L2.noS])
theorem i3:∀{rs:List Rv} {as:List Sv},cc e rs=some as→Fs (as.map some)
  | [],_,q=>by cases q;intro i xss h;simp at h
  | .d x::rs,as,q=>by
    obtain⟨as',q1,rfl⟩:=LF q
    have ih:=i3 q1
    intro i xss h
    cases i with
    | zero=>simp at h
    | succ i=>exact ih i xss (by simpa using h)
  | .l x::rs,as,q=>by
    obtain⟨as',q1,rfl⟩:=LF q
    have ih:=i3 q1
    intro i xss h
    cases i with
    | zero=>simp at h
    | succ i=>exact ih i xss (by simpa using h)
  | .s j::rs,as,q=>by
    unfold cc at q
    match he:e[j]?,q with
    | some (some (.l xs)),q=>
      obtain⟨as',q1,rfl⟩:=LF q
      have ih:=i3 q1
      intro i xss h
      cases i with
      | zero=>simp at h
      | succ i=>exact ih i xss (by simpa using h)
theorem Fk{n:Nat}{m:FM}{fs:FA}{Q:VK}{E:XK}(h:fE K (bM n m fs) σ H Q):AU (bo K n m) [] E (fA K fs) σ H Q:=by
  obtain⟨F,e,z,e',R,hf,q⟩:=h
  unfold bM at hf
  obtain⟨⟨rs,e1⟩,h1,hf⟩:=LD hf
  obtain⟨as,h2,hf⟩:=LD hf
  obtain⟨⟨r,as'⟩,h3,hf⟩:=LD hf
  split at hf
  case isFalse=>cases hf
  case isTrue hc=>
  obtain⟨c1,c2,c3,c4⟩:=hc
  cases hf
  refine⟨F,e,rs,e1,R,h1,fun F1 H1 vs X1 R1 A1=>?_⟩
  obtain⟨F2,R2,s2,f2,l1,l2,d2,o2⟩:=nY R1 A1 h2
  have X2:=X1.frz s2 f2
  rw [List.append_nil]
  have hn:L2.noS r:=by
    cases r with
    | d x=>trivial
    | l x=>trivial
    | s i=>cases c4
  have nN:=i3 h2
  have RA:bc K F2 H1 (vs.map some) (as.map some):=by
    refine⟨R2.sm,by simp [l1],fun k x hk=>?_,fun k xs hk=>?_,fun k xss hk=>absurd hk (nN k xss),fun k j l f1 f2=>?_⟩
    · obtain⟨v,g1,g2⟩:=d2 k x (gh.mp hk)
      exact⟨v,gh.mpr g1,g2⟩
    · obtain⟨i,g1,g2,v,g3,g4⟩:=o2 k xs (gh.mp hk)
      obtain⟨l,us,k1,k2,k3,k4⟩:=R2.own i xs g2
      rw [g4] at k1;cases k1
      exact⟨l,us,gh.mpr g3,k2,k3,k4⟩
    · obtain⟨xs,g1,g3⟩:=f1.resolve_right fun⟨xss,_,_,z,_⟩=>nN k xss z
      obtain⟨ys,g2,g4⟩:=f2.resolve_right fun⟨xss,_,_,z,_⟩=>nN j xss z
      obtain⟨i1,a1,a2,v1,a3,a4⟩:=o2 k xs (gh.mp g1)
      obtain⟨i2,b1,b2,v2,b3,b4⟩:=o2 j ys (gh.mp g2)
      have e1:=gh.mp g3
      have e2:=gh.mp g4
      rw [a3] at e1;cases e1
      rw [b3] at e2;cases e2
      have:i1=i2:=R2.inj i1 i2 xs ys l a2 b2 a4 b4
      subst this
      exact hR c2 a1 b1
  have sub:sZ σ e1 (vs.map some) (as.map some) (k8 rs):=by
    refine⟨fun i k xs g1 g2=>?_,fun k ys g1=>?_⟩
    · have g3:=mK g2
      obtain⟨zs,hs⟩:=lq h2 g3
      obtain⟨i',a1,a2,v,a3,a4⟩:=o2 k zs hs
      rw [g3] at a1;cases a1
      rw [gh.mpr a3,a4]
    · obtain⟨i,a1,a2,v,a3,a4⟩:=o2 k ys (gh.mp g1)
      refine⟨i,ys,a2,?_,by rw [gh.mpr a3,a4]⟩
      cases hp:k8 rs i with
      | none=>
        unfold k8 at hp
        rw [List.findIdx?_eq_none_iff] at hp
        have:=hp _ (LK a1)
        simp at this
      | some j=>rw [hR c2 (mK hp) a1]
  refine⟨by rw [l1,←l2];exact c1,F2,as,r,as',RA,nN,h3,hn,fun F' H' v X3 R3 A3=>?_⟩
  obtain⟨R4,X4,o4⟩:=pT R2 sub nN X3.sf X3.dom X3.fr X3.lst X3.tmp X3.fd R3 (fun _ _ _ _ _=>rfl) fun i k xs g1 g2=>by
    obtain⟨ys,g3⟩:=jd c3 k i (mK g2)
    exact⟨ys,gh.mpr g3⟩
  have hb:=og (e:=e1) c2 c3 (gb h2)
  rw [←hb] at R4 X4 o4
  exact q F' H' v (X2.trans X4) R4 ((A3.noS hn fun a z=>R2.ownH a (o4 a z)).weak X2.dom)
theorem aP{x:Str}{st:Stmt}{f:Addr}{fd:FuncData}{ps:List Str}{k n:Nat}{m:FM}{a:Expr}{es:List Expr}{fs:FA}{p pos:Pos}(h:aT X.K X.mg x st f fd ps)(G:au X.prog X.w X.K X.mg X.base bj k f fd ps (bo K n m))(hr:c9 k X.A)(ha:PA X (a::es) (fA K fs))
    (hg:Gl X x)(hdb:(x==("__debug__":Str))=false)(he:starEach (a::es) X.env=(false,eval a X.env)::starEach es X.env)(hpl:(backTo pos (starEach es X.env)).any (·.1)=false):
    PE X (.Call (.Name x p) (a::es) [] pos) (fE K (bM n m fs)):=(Hx h G hr ha hg hdb he hpl).mono fun _ _ _ h=>Fk h
def sR:List Sv→En→Option (List Sv)
  | [],_=>some []
  | .d x::r,e=>(sR r e.tail).map (.d x::·)
  | .l _::r,e=>match e.head? with
    | some (some (.l ys))=>(sR r e.tail).map (.l ys::·)
    | _=>none
  | .n _::_,_=>none
def p9(n:Nat)(e:En):Rv→Option Rv
  | .s i=>if n≤i then match e[i]? with
      | some (some (.l xs))=>some (.l xs)
      | _=>none
    else none
  | r=>some r
def jQ(W:List Nat)(as:List Sv):Bool:=W.all fun j=>match as[j]? with
  | some (.l _)=>false
  | _=>true
def fP(n k:Nat)(W:List Nat)(f:FS):FM:=fun as=>if as.length=n∧jQ W as=true then(f (as.map some++List.replicate k none)).bind fun fl=>match fl with
    | .rt r e=>(p9 n e r).bind fun r'=>(sR as e).map fun as'=>(r',as')
    | .nx e=>(sR as e).map fun as'=>(.d .none,as')
    | _=>none
  else none
theorem ou:∀{as as':List Sv} {e:En},sR as e=some as'→as'.length=as.length∧(∀(j:Nat) (x:PyData),as'[j]?=some (.d x)↔ as[j]?=some (.d x))∧(∀(j:Nat) (ys:List PyData),as'[j]?=some (.l ys)→(∃xs,as[j]?=some (.l xs))∧e[j]?=some (some (.l ys)))∧∀(j:Nat) (xs:List PyData),as[j]?=some (.l xs)→∃ys,as'[j]?=some (.l ys)
  | [],_,e,h=>by cases h;simp
  | .d x::r,_,e,h=>by
    obtain⟨s,h1,rfl⟩:=LF h
    obtain⟨g1,g2,g3,g4⟩:=ou h1
    refine⟨by simp [g1],fun j y=>?_,fun j ys hj=>?_,fun j xs hj=>?_⟩
    · cases j with
      | zero=>simp
      | succ j=>simpa using g2 j y
    · cases j with
      | zero=>simp at hj
      | succ j=>
        obtain⟨c1,c2⟩:=g3 j ys (by simpa using hj)
        refine⟨by simpa using c1,?_⟩
        rw [List.getElem?_tail] at c2
        exact c2
    · cases j with
      | zero=>simp at hj
      | succ j=>simpa using g4 j xs (by simpa using hj)
  | .l xs::r,_,e,h=>by
    unfold sR at h
    match he:e.head?,h with
    | some (some (.l ys)),h=>
      obtain⟨s,h1,rfl⟩:=LF h
      obtain⟨g1,g2,g3,g4⟩:=ou h1
      refine⟨by simp [g1],fun j y=>?_,fun j zs hj=>?_,fun j zs hj=>?_⟩
      · cases j with
        | zero=>simp
        | succ j=>simpa using g2 j y
      · cases j with
        | zero=>
          simp at hj;subst hj
          exact⟨⟨xs,rfl⟩,by rw [List.head?_eq_getElem?] at he;exact he⟩
        | succ j=>
          obtain⟨c1,c2⟩:=g3 j zs (by simpa using hj)
          refine⟨by simpa using c1,?_⟩
          rw [List.getElem?_tail] at c2
          exact c2
      · cases j with
        | zero=>exact⟨ys,rfl⟩
        | succ j=>simpa using g4 j zs (by simpa using hj)
  | .n x::r,_,e,h=>by simp [sR] at h
end
theorem eQ{α:Type}{l:List (Option α)}{k i:Nat}{x:α}(h:(l++List.replicate k none)[i]?=some (some x)):l[i]?=some (some x):=by
  rw [List.getElem?_append] at h
  split at h
  · exact h
  · rw [List.getElem?_replicate] at h
    split at h<;>simp at h
theorem fH{α:Type}{l:List (Option α)}{k i:Nat}{x:α}(h:l[i]?=some (some x)):(l++List.replicate k none)[i]?=some (some x):=by
  have hi:i < l.length:=(LG h).1
  rw [List.getElem?_append_left hi];exact h
section
variable{K:⇑0}{F H:Hp}{σ:L2.St}{e:En}{k:Nat}
theorem rS{i:Nat}{a:Addr}:Fp (σ++List.replicate k none) (e++List.replicate k none) H i a↔ Fp σ e H i a:=by
  constructor
  · rintro(⟨xs,h1,h2⟩ | ⟨xss,l,bs,h1,h2,h3⟩)
    · exact .inl ⟨xs,eQ h1,eQ h2⟩
    · exact .inr ⟨xss,l,bs,eQ h1,eQ h2,h3⟩
  · rintro(⟨xs,h1,h2⟩ | ⟨xss,l,bs,h1,h2,h3⟩)
    · exact .inl ⟨xs,fH h1,fH h2⟩
    · exact .inr ⟨xss,l,bs,fH h1,fH h2,h3⟩
theorem om{a:Addr}:cn (σ++List.replicate k none) (e++List.replicate k none) H a↔ cn σ e H a:=⟨fun⟨i,h⟩=>⟨i,rS.mp h⟩,fun⟨i,h⟩=>⟨i,rS.mpr h⟩⟩
theorem bc.pad(R:bc K F H σ e):bc K F H (σ++List.replicate k none) (e++List.replicate k none):=by
  refine⟨R.sm,by simp [R.len],fun i x h=>?_,fun i xs h=>?_,fun i xss h=>?_,fun i j a h1 h2=>R.fp i j a (rS.mp h1) (rS.mp h2)⟩
  · obtain⟨v,g1,g2⟩:=R.dat i x (eQ h)
    exact⟨v,fH g1,g2⟩
  · obtain⟨l,vs,g1,g2⟩:=R.own i xs (eQ h)
    exact⟨l,vs,fH g1,g2⟩
  · obtain⟨l,bs,g1,g2⟩:=R.nst i xss (eQ h)
    exact⟨l,bs,fH g1,g2⟩
end
theorem sS:∀{as as':List Sv} {e:En},sR as e=some as'→Fs (as'.map some)
  | [],_,e,h=>by cases h;intro i xss z;simp at z
  | .d x::r,_,e,h=>by
    obtain⟨s,h1,rfl⟩:=LF h
    have ih:=sS h1
    intro i xss z
    cases i with
    | zero=>simp at z
    | succ i=>exact ih i xss (by simpa using z)
  | .l xs::r,_,e,h=>by
    unfold sR at h
    match he:e.head?,h with
    | some (some (.l ys)),h=>
      obtain⟨s,h1,rfl⟩:=LF h
      have ih:=sS h1
      intro i xss z
      cases i with
      | zero=>simp at z
      | succ i=>exact ih i xss (by simpa using z)
  | .n x::r,_,e,h=>by simp [sR] at h
theorem tY{W:List Nat}{as:List Sv}(h:jQ W as=true){j:Nat}{xs:List PyData}(hj:as[j]?=some (.l xs)):j∉W:=fun z=>by
  unfold jQ at h
  have:=List.all_eq_true.mp h j z
  rw [hj] at this
  cases this
section
variable{P:Program}{w:World}{K:⇑0}{mg:Str→Option Value}{base:Heap}
theorem aT.fn{x:Str}{st:Stmt}{f:Addr}{fd:FuncData}{N ps:List Str}{k n k0:Nat}{W:List Nat}{fb:FS}(h:aT K mg x st f fd ps)(S:ay N ps (am st))(hn:ps.length=n)(hN:N.length=n+k0)
    (hb:∀(cdv:Value) (A:Around) (outer:List Env) (s:Shared) (H:Hp) (E:XK),c9 k (A.deeper (envOfC x (am st) ↑s f cdv))→lp (eK bj P w K mg base N x (am st) f cdv A outer s H E).nox (cw st) (fS K fb W)):
    au P w K mg base bj (k+1) f fd ps (bo K n (fP n k0 W fb)):=by
  refine h.F.ok S (fun vs H Q E q=>?_) fun cdv A outer s H vs Q E hr hsp=>⟨_,hb cdv A outer s H E hr,?_⟩
  · rw [hn];exact q.1
  · obtain⟨hl,F,as,r,as',R,nN,hm,nr,q⟩:=hsp
    unfold fP at hm
    split at hm
    case isFalse=>cases hm
    case isTrue hc=>
    obtain⟨la,nl⟩:=hc
    obtain⟨fl,h1,hm⟩:=LD hm
    have hst:eG N vs=vs.map some++List.replicate k0 none:=by unfold eG;rw [hN,hl];congr 2;lia
    rw [hst]
    have key:∀{as':List Sv} {e':En},sR as e'=some as'→∀F' H' σ',dk W (vs.map some++List.replicate k0 none) F H (as.map some++List.replicate k0 none) σ' F' H' e'→bc K F' H' σ' e'→
        eH (vs.map some) F H (as.map some) F' H' (as'.map some)∧bc K F' H' (vs.map some) (as'.map some)∧∀a,cn (vs.map some) (as'.map some) H' a→cn (vs.map some) (as.map some) H a:=by
      intro as' e' hu F' H' σ' X' R'
      obtain⟨u1,u2,u3,u4⟩:=ou hu
      have uN:=sS hu
      have ow:∀a,cn (vs.map some) (as'.map some) H' a→cn (vs.map some) (as.map some) H a:=by
        rintro a ⟨j,⟨ys,c1,c2⟩ | ⟨xss,_,_,z,_⟩⟩
        · obtain⟨⟨xs,c3⟩,_⟩:=u3 j ys (gh.mp c1)
          exact⟨j,.inl ⟨xs,gh.mpr c3,c2⟩⟩
        · exact absurd z (uN j xss)
      have sg:∀(j:Nat) (xs:List PyData),as[j]?=some (.l xs)→σ'[j]?=(vs.map some)[j]?:=fun j xs hj=>by
        rw [X'.wr j (tY nl hj)]
        have hj2:j < (vs.map some).length:=by rw [List.length_map,hl,←la];exact(LG hj).1
        rw [List.getElem?_append_left hj2]
      refine⟨⟨X'.sf,X'.dom,fun a vs h1 h2 hn=>X'.fr a vs h1 h2 fun z=>hn (om.mp z),X'.lst,fun a o ha hn=>X'.tmp a o ha fun z=>hn (om.mp z),fun j=>?_,fun a z=>.inl (ow a z),fun a m h1 h2 hn=>X'.fd a m h1 h2 fun z=>hn (om.mp z)⟩,⟨R'.sm,?_,fun j y hj=>?_,fun j ys hj=>?_,fun j xss hj=>absurd hj (uN j xss),fun j i l f1 f2=>?_⟩,ow⟩
      · constructor
        · rintro⟨ys,hj⟩
          obtain⟨⟨xs,c⟩,_⟩:=u3 j ys (gh.mp hj)
          exact⟨xs,gh.mpr c⟩
        · rintro⟨xs,hj⟩
          obtain⟨ys,c⟩:=u4 j xs (gh.mp hj)
          exact⟨ys,gh.mpr c⟩
      · simp [u1,hl,la]
      · obtain⟨v,c1,c2⟩:=R.dat j y (gh.mpr ((u2 j y).mp (gh.mp hj)))
        exact⟨v,c1,DA.mono X'.sf c2⟩
      · obtain⟨⟨xs,c1⟩,c2⟩:=u3 j ys (gh.mp hj)
        obtain⟨l,us,d1,d2⟩:=R'.own j ys c2
        exact⟨l,us,by rw [←sg j xs c1];exact d1,d2⟩
      · obtain⟨xs,g1,g3⟩:=f1.resolve_right fun⟨xss,_,_,z,_⟩=>uN j xss z
        obtain⟨ys,g2,g4⟩:=f2.resolve_right fun⟨xss,_,_,z,_⟩=>uN i xss z
        obtain⟨⟨zs,c1⟩,c2⟩:=u3 j xs (gh.mp g1)
        obtain⟨⟨ws,c3⟩,c4⟩:=u3 i ys (gh.mp g2)
        exact R'.inj j i xs ys l c2 c4 (by rw [sg j zs c1];exact g3) (by rw [sg i ws c3];exact g4)
    refine⟨F,as.map some++List.replicate k0 none,fl,R.pad,h1,?_⟩
    cases fl with
    | bk e'=>cases hm
    | ct e'=>cases hm
    | nx e'=>
      obtain⟨as2,h2,hm⟩:=LF hm
      cases hm
      intro F' H' σ' X' R'
      obtain⟨X2,R2,_⟩:=key h2 F' H' σ' X' R'
      exact q F' H' .non X2 R2 ((oh (K:=K) (F:=F')).mpr rfl)
    | rt r0 e'=>
      obtain⟨r1,h2,hm⟩:=LD hm
      obtain⟨as2,h3,hm⟩:=LF hm
      cases hm
      intro F' H' σ' v X' R' A'
      obtain⟨X2,R2,ow2⟩:=key h3 F' H' σ' X' R'
      have noo:∀l,H l=none→¬cn (vs.map some) (as'.map some) H' l:=fun l hl z=>R.ownH l (ow2 l z) hl
      refine q F' H' v X2 R2 ?_
      cases r0 with
      | d y=>cases h2;exact A'
      | l ys=>
        cases h2
        obtain⟨l,us,d0,d1,d2,d3,d4,_⟩:=A'
        exact⟨l,us,d0,d1,d2,d3,d4,noo l d1⟩
      | s i=>
        simp only [p9] at h2
        split at h2
        case isFalse=>cases h2
        case isTrue hi=>
        obtain⟨a1,xs,a2⟩:=A'
        rw [a2] at h2
        cases h2
        obtain⟨l,us,d1,d2,d3,d4⟩:=R'.own i _ a2
        rw [a1] at d1;cases d1
        suffices hl0:H l=none from⟨l,us,rfl,hl0,d2,d3,d4,noo l hl0⟩
        rcases X'.own l ⟨i,.inl ⟨_,a2,a1⟩⟩ with z | z
        · obtain⟨j,zf⟩:=om.mp z
          obtain⟨ys,z1,z2⟩:=zf.resolve_right fun⟨xss,_,_,z,_⟩=>nN j xss z
          have z1':=gh.mp z1
          obtain⟨u1,u2,u3,u4⟩:=ou h3
          obtain⟨ws,w1⟩:=u4 j ys z1'
          obtain⟨_,w2⟩:=u3 j ws w1
          have hj2:j < vs.length:=by rw [hl,←la];exact(LG z1').1
          have e3:σ'[j]?=some (some (.ref l)):=by
            rw [X'.wr j (tY nl z1'),List.getElem?_append_left (by simpa using hj2)]
            exact z2
          have:=R'.inj i j _ ws l a2 w2 a1 e3
          lia
        · exact z
end
def FW:Option Sv→Option Sv
  | some (.n _)=>none
  | s=>s
def mC(cp:List (Nat × Str))(nT:Nat)(e:En):En:=cp.map (fun p=>FW (e[p.1]?).join)++List.replicate nT none
def lV(cp:List (Nat × Str))(i:Nat):Option Nat:=cp.findIdx? fun p=>p.1==i
def cF(g:FG)(ft:FT)(fe:FE):List PyData→En→List PyData→Option (List PyData × En)
  | [],e,acc=>some (acc,e)
  | x::r,e,acc=>(g x e).bind fun e1=>(ft e1).bind fun b=>if b.1=true then(fe b.2).bind fun v=>(kW v.1).bind fun d=>if acc.length < 1000000 then cF g ft fe r v.2 (acc++[d]) else none else cF g ft fe r b.2 acc
def gD(cp:List (Nat × Str))(ei e:En):Bool:=cp.all fun p=> !vf e[p.1]? || vf ei[(lV cp p.1).getD 0]?
def bG(cp:List (Nat × Str))(nT:Nat)(fi:FI)(g:FG)(ft:FT)(fe:FE):FE:=fun e=>(fi e).bind fun p=>if (p.2.1.all fun q=> !(cp.any fun c=>c.1==q.1))=true then(cF g ft fe p.1 (mC cp nT p.2.2) []).bind fun z=>if gD cp z.2 p.2.2=true then some (.l z.1,mj (lV cp) z.2 p.2.2) else none else none
section
variable{K:⇑0}{F H:Hp}{σ:L2.St}{e:En}{cp:List (Nat × Str)}{nT:Nat}
theorem dP{i k:Nat}(h:lV cp i=some k):∃s,cp[k]?=some (i,s):=by
  unfold lV at h
  rw [List.findIdx?_eq_some_iff_getElem] at h
  obtain⟨hk,h1,_⟩:=h
  refine⟨cp[k].2,?_⟩
  rw [List.getElem?_eq_getElem hk]
  have:=eq_of_beq h1
  rw [←this]
theorem jb{k:Nat}{x:Sv}(h:(mC cp nT e)[k]?=some (some x)):∃i s,cp[k]?=some (i,s)∧e[i]?=some (some x):=by
  unfold mC at h
  have h:=eQ h
  rw [List.getElem?_map] at h
  obtain⟨p,h1,h2⟩:=LF h
  refine⟨p.1,p.2,h1,?_⟩
  cases q:e[p.1]? with
  | none=>rw [q] at h2;cases h2
  | some y=>
    rw [q] at h2
    match y,h2 with
    | some (.d z),h2=>exact congrArg some h2
    | some (.l z),h2=>exact congrArg some h2
    | some (.n z),h2=>cases h2
    | none,h2=>cases h2
theorem jc:Fs (mC cp nT e):=by
  intro k xss h
  unfold mC at h
  have h:=eQ h
  rw [List.getElem?_map] at h
  obtain⟨p,h1,h2⟩:=LF h
  match (e[p.1]?).join,h2 with
  | some (.d z),h2=>cases h2
  | some (.l z),h2=>cases h2
  | some (.n z),h2=>cases h2
  | none,h2=>cases h2
theorem oo{k i:Nat}{s:Str}{v:V}(h:cp[k]?=some (i,s))(hv:σ[i]?=some (some v)):(dU cp nT σ)[k]?=some (some v):=by
  unfold dU
  refine fH ?_
  rw [List.getElem?_map,h]
  simp [hv]
theorem mf{k i:Nat}{s:Str}{v:V}(h:cp[k]?=some (i,s))(hv:(dU cp nT σ)[k]?=some (some v)):σ[i]?=some (some v):=by
  unfold dU at hv
  have hv:=eQ hv
  rw [List.getElem?_map,h] at hv
  simp only [Option.map_some,Option.some.injEq] at hv
  cases q:σ[i]? with
  | none=>rw [q] at hv;cases hv
  | some y=>rw [q] at hv;exact congrArg some hv
theorem rP:∀{cp:List (Nat × Str)} {k j i:Nat} {s t:Str},(cp.map (·.1)).Nodup→cp[k]?=some (i,s)→cp[j]?=some (i,t)→k=j
  | [],k,j,i,s,t,_,h,_=>by simp at h
  | p::r,k,j,i,s,t,hn,h1,h2=>by
    simp only [List.map_cons,List.nodup_cons] at hn
    cases k with
    | zero=>
      simp at h1;subst h1
      cases j with
      | zero=>rfl
      | succ j=>
        have hm:(i,t)∈r:=LK (i:=j) (by simpa using h2)
        exact absurd (List.mem_map.mpr ⟨(i,t),hm,rfl⟩) hn.1
    | succ k=>
      cases j with
      | zero=>
        simp at h2;subst h2
        have hm:(i,s)∈r:=LK (i:=k) (by simpa using h1)
        exact absurd (List.mem_map.mpr ⟨(i,s),hm,rfl⟩) hn.1
      | succ j=>
        have:=rP (cp:=r) (k:=k) (j:=j) hn.2 (by simpa using h1) (by simpa using h2)
        lia
theorem bc.inn(R:bc K F H σ e)(hn:(cp.map (·.1)).Nodup):bc K F H (dU cp nT σ) (mC cp nT e)∧sZ σ e (dU cp nT σ) (mC cp nT e) (lV cp):=by
  refine⟨⟨R.sm,by simp [dU,mC],fun k x h=>?_,fun k xs h=>?_,fun k xss h=>absurd h (jc k xss),fun k j l f1 f2=>?_⟩,⟨fun i k xs h1 h2=>?_,fun k ys h=>?_⟩⟩
  · obtain⟨i,s,h1,h2⟩:=jb h
    obtain⟨v,g1,g2⟩:=R.dat i x h2
    exact⟨v,oo h1 g1,g2⟩
  · obtain⟨i,s,h1,h2⟩:=jb h
    obtain⟨l,vs,g1,g2⟩:=R.own i xs h2
    exact⟨l,vs,oo h1 g1,g2⟩
  · obtain⟨xs,h1,h3⟩:=f1.resolve_right fun⟨xss,_,_,z,_⟩=>jc k xss z
    obtain⟨ys,h2,h4⟩:=f2.resolve_right fun⟨xss,_,_,z,_⟩=>jc j xss z
    obtain⟨i,s,a1,a2⟩:=jb h1
    obtain⟨i',s',b1,b2⟩:=jb h2
    have:i=i':=R.inj i i' xs ys l a2 b2 (mf a1 h3) (mf b1 h4)
    subst this
    exact rP hn a1 b1
  · obtain⟨s,g⟩:=dP h2
    obtain⟨l,vs,g1,_⟩:=R.own i xs h1
    rw [g1];exact oo g g1
  · obtain⟨i,s,h1,h2⟩:=jb h
    obtain⟨l,vs,g1,_⟩:=R.own i ys h2
    refine⟨i,ys,h2,?_,by rw [g1];exact oo h1 g1⟩
    cases hp:lV cp i with
    | none=>
      unfold lV at hp
      rw [List.findIdx?_eq_none_iff] at hp
      have:=hp _ (LK h1)
      simp at this
    | some j=>
      obtain⟨t,g⟩:=dP hp
      rw [rP hn g h1]
theorem bc.putT(R:bc K F H σ e){l:Addr}{ws:List V}(h1:F l=none)(h2:¬cn σ e H l):bc K F (a_ H l (.lst ws)) σ e∧∀a,cn σ e (a_ H l (.lst ws)) a↔ cn σ e H a:=
  R.keep (aC.refl F) (fun b o q=>by
    have z:b≠l:=fun z=>by rw [z,h1] at q;cases q
    rw [ar z];exact R.sm b o q) (fun a ⟨i,h⟩=>(R.fpAt h).1) fun a o ha q=>by
      have z:a≠l:=fun z=>h2 (by rw [←z];exact ha)
      rw [ar z];exact q
theorem dk.putT{W:List Nat}{σ':L2.St}{F' H':Hp}{e':En}(x:dk W σ F H e σ' F' H' e'){l:Addr}{o:HO}(h:H l=none)(ho:∀a,cn σ' e' (a_ H' l o) a↔ cn σ' e' H' a):dk W σ F H e σ' F' (a_ H' l o) e':=by
  refine⟨x.sf,fun a q=>?_,x.fr,fun a vs q=>?_,fun a u q n=>?_,fun a q=>x.own a ((ho a).mp q),x.wr,x.fd⟩
  · by_cases z:a=l
    · rw [z];exact h
    · rw [ar z] at q;exact x.dom a q
  · have z:a≠l:=fun z=>by rw [z,h] at q;cases q
    rw [ar z];exact x.lst a vs q
  · have z:a≠l:=fun z=>by rw [z,h] at q;cases q
    rw [ar z];exact x.tmp a u q n
inductive CI (K:⇑0) (W:List Nat) (σ0:L2.St) (F1 H1:Hp) (e0:En) (l:Addr) (P:Hp→En→List PyData→Prop) (σ':L2.St) (H':Hp):Prop
  | mk {F':Hp} {ei:En} {acc:List PyData} {vs:List V} (R:bc K F' H' σ' ei) (X:dk W σ0 F1 H1 e0 σ' F' H' ei) (fl:F' l=none) (no:¬cn σ' ei H' l) (hl:H' l=some (.lst vs)) (da:aR K F' acc vs) (hc:P F' ei acc):CI K W σ0 F1 H1 e0 l P σ' H'
theorem uH{Q:VK}{fi:FI}{g:FG}{W:List Nat}{ft:FT}{fe:FE}(hn:(cp.map (·.1)).Nodup)(hW:∀j∈W,cp.length≤j)(h:fE K (bG cp nT fi g ft fe) σ H Q):xl cp nT (fI K fi) (fG K g W) (fT K ft) (fE K fe) σ H Q:=by
  obtain⟨F0,e0,z,e',R0,hf,q⟩:=h
  unfold bG at hf
  obtain⟨⟨items,own,e1⟩,h1,hf⟩:=LD hf
  dsimp only at hf
  split at hf
  case isFalse=>cases hf
  case isTrue hO=>
  obtain⟨⟨out,eo⟩,h2,hf⟩:=LD hf
  dsimp only at hf
  split at hf
  case isFalse=>cases hf
  case isTrue hB=>
  cases hf
  refine⟨⟨F0,e0,items,own,e1,R0,h1,fun J F1 H1 X1 R1 kp ok=>?_⟩⟩
  intro l hl
  obtain⟨Ri,sub⟩:=R1.inn (nT:=nT) hn
  have hFl:F1 l=none:=R1.freeF hl
  let Iv:Nat→L2.St→Hp→Prop:=fun i=>CI K W (dU cp nT σ) F1 H1 (mC cp nT e1) l fun _ ei acc=>cF g ft fe (items.drop i) ei acc=some (out,eo)
  have notown:∀p∈own,∀a,σ[p.1]?=some (some (.ref a))→¬cn (dU cp nT σ) (mC cp nT e1) H1 a:=by
    rintro p hp a ha ⟨k,zf⟩
    obtain⟨xs,c1,c2⟩:=zf.resolve_right fun⟨xss,_,_,z,_⟩=>jc k xss z
    obtain⟨i,s,d1,d2⟩:=jb c1
    have e2:=mf d1 c2
    have:p.1=i:=R1.inj p.1 i p.2 xs a (kp p hp) d2 ha e2
    have hh:=List.all_eq_true.mp hO p hp
    simp only [Bool.not_eq_true',List.any_eq_false,beq_iff_eq] at hh
    exact hh (i,s) (LK d1) this.symm
  refine⟨fun i m σ' H'=>m=items.length - i∧i≤items.length∧Iv i σ' H',⟨items.length,by simp,Nat.zero_le _,.mk (Ri.putT hFl (fun z=>(Ri.ownH l z) hl)).1 (dk.refl.putT hl (Ri.putT hFl (fun z=>(Ri.ownH l z) hl)).2) hFl (fun z=>(Ri.ownH l (((Ri.putT hFl (fun z=>(Ri.ownH l z) hl)).2 l).mp z)) hl) az aR.nil h2⟩,?_⟩
  rintro i m σ' H' ⟨rfl,hi,⟨R',X',fl,no,hl',da,hc⟩⟩
  rename_i F' ei acc vs
  have held:xD K σ F' H' own:=fun p hp=>by
    obtain⟨a,us,c1,c2,c3,c4⟩:=R1.own p.1 p.2 (kp p hp)
    exact⟨a,us,c1,X'.tmp a _ c3 (notown p hp a c1),c4.mono X'.sf⟩
  obtain⟨go,stop,yld⟩:=ok F' H' X'.sf R'.sm held
  by_cases hlt:i < items.length
  · have hd:items.drop i=items[i]::items.drop (i+1):=List.drop_eq_getElem_cons hlt
    rw [hd] at hc
    unfold cF at hc
    obtain⟨e2,c2,hc⟩:=LD hc
    obtain⟨⟨b,e3⟩,c3,hc⟩:=LD hc
    refine .inr ⟨go i hlt,Iv (i+1),fun σ2 H2 r=>⟨items.length - (i+1),by lia,rfl,hlt,r⟩,fun x H2 hy=>?_⟩
    obtain⟨F2,sH,sF2,sm2,fz,hx⟩:=yld i items[i] x H2 (List.getElem?_eq_getElem hlt) hy
    obtain⟨R2,X2⟩:=R'.step sH sF2 sm2 fz
    refine⟨F2,ei,items[i],e2,R2,hx,c2,fun σ3 X3 R3=>⟨F2,e2,b,e3,R3,c3,fun F4 H4 X4 R4=>?_⟩⟩
    have hlH2:H2 l=some (.lst vs):=sH _ _ hl'
    have no2:¬cn σ' ei H2 l:=fun z=>by
      rcases X2.ow l z with z | z
      · exact no z
      · rw [hl'] at z;cases z
    have no3:¬cn σ3 e2 H2 l:=fun z=>by
      rcases X3.own l z with z | z
      · exact no2 z
      · rw [hlH2] at z;cases z
    have fl2:F2 l=none:=fz l fl (by rw [hl'];simp)
    have hlH4:H4 l=some (.lst vs):=X4.tmp l _ hlH2 no3
    have fl4:F4 l=none:=X4.fr l vs fl2 hlH2 no3
    have no4:¬cn σ3 e3 H4 l:=fun z=>by
      rcases X4.ow l z with z | z
      · exact no3 z
      · rw [hlH2] at z;cases z
    have E4:dk W (dU cp nT σ) F1 H1 (mC cp nT e1) σ3 F4 H4 e3:=((X'.trans X2.s).trans X3).trans X4.s
    cases b with
    | false=>
      rw [if_neg ↥1] at hc
      exact xT (.mk R4 E4 fl4 no4 hlH4 (da.mono (sF2.trans X4.sf)) hc)
    | true=>
      rw [if_pos rfl] at hc
      obtain⟨⟨r,e5⟩,c5,hc⟩:=LD hc
      obtain⟨d,c6,hc⟩:=LD hc
      split at hc
      case isFalse=>cases hc
      case isTrue hlen=>
      refine zq ⟨F4,e3,r,e5,R4,c5,fun F5 H5 v X5 R5 A5=>?_⟩
      have hlH5:H5 l=some (.lst vs):=X5.tmp l _ hlH4 no4
      have fl5:F5 l=none:=X5.fr l vs fl4 hlH4 no4
      have no5:¬cn σ3 e5 H5 l:=fun z=>by
        rcases X5.ow l z with z | z
        · exact no4 z
        · rw [hlH4] at z;cases z
      obtain⟨F6,R6,s6,d6,f6⟩:=b_.frozen R5 (rs:=[r]) (vs:=[v]) ⟨v,[],rfl,A5,rfl⟩ (j4 c6)
      have fl6:F6 l=none:=f6 l fl5 (by rw [hlH4];simp)
      have X6:=X5.frz s6 f6
      have ll:=da.len
      have sl:sizeLine=16777216:=sizeLine_eq
      have dv:DA K F6 d v:=by
        simp only [aR] at d6
        obtain⟨v',r',e',hv,_⟩:=d6
        cases e';exact hv
      obtain⟨R7,o7⟩:=R6.putT (ws:=vs++[v]) fl6 no5
      exact⟨vs,hlH5,by lia,.mk R7 ((E4.trans X6.s).putT hl o7) fl6 (fun z=>no5 ((o7 l).mp z)) az ((da.mono (sF2.trans (X4.sf.trans (X5.sf.trans s6)))).append (aR.one dv)) hc⟩
  · have hd:items.drop i=[]:=List.drop_eq_nil_of_le ↥0
    rw [hd] at hc
    cases hc
    refine .inl ⟨stop i ↥0,?_⟩
    obtain⟨R9,X9,o9⟩:=pT R1 sub jc X'.sf X'.dom X'.fr X'.lst X'.tmp X'.fd R' (fun i k xs g1 g2=>X'.wr k fun z=>by
      obtain⟨s,g⟩:=dP g2
      have:=(LG g).1
      have:=hW k z
      lia) fun i k xs g1 g2=>by
        obtain⟨s,g⟩:=dP g2
        unfold gD at hB
        have hb:=List.all_eq_true.mp hB _ (LK g)
        simp only [g1,g2,Option.getD_some,vf,Bool.not_true,Bool.false_or] at hb
        exact wJ.mp hb
    exact q F' H' (.ref l) (X1.trans X9) R9 ⟨l,vs,rfl,X1.dom l hl,fl,hl',da,fun z=>R1.ownH l (o9 l z) hl⟩
end
section
variable{X:Cx}{K:⇑0}{a b:Expr}{es:List Expr}{fa fb:FE}{fs:FA}{pos p p2 p3:Pos}{lo hi:Option Expr}
def oJ:En→Rv→Option Rv:=fun _ x=>(bA x).map fun i=>.d (.int (-i))
theorem F_:Fy K (rU fun i=>.int (-i)) oJ:=by
  intro σ H0 F H e x z v Q R A hg q
  obtain⟨i,h5,h4⟩:=LF hg
  cases h4
  exact⟨i,cg A h5,q F H _ (eH.refl _ _ _ _) R mO⟩
theorem nG(ha:PE X a (fE K fa)):PE X (.UnaryOp .USub a pos) (fE K (pW oJ fa)):=Gj Fj F_ ha
theorem bB(hK:X.K=K)(ha:PE X a (fE K fa))(hb:PE X b (fE K fb)):PE X (.BinOp a .Add b pos) (fE K (aq bL fa fb)):=pD (hK ▸ BN) FB ha hb
theorem ug(ha:PE X a (fE K fa))(hb:PE X b (fE K fb)):PE X (.BinOp a .Sub b pos) (fE K (aq jK fa fb)):=pD Em GA ha hb
theorem df(hK:X.K=K)(ha:PE X a (fE K fa))(hb:PE X b (fE K fb)):PE X (.BinOp a .Mult b pos) (fE K (aq bQ fa fb)):=pD (hK ▸ BR) F8 ha hb
theorem gU(ha:PE X a (fE K fa))(hb:PE X b (fE K fb)):PE X (.BinOp a .FloorDiv b pos) (fE K (aq eh fa fb)):=pD zP DP ha hb
theorem a9(ha:PE X a (fE K fa))(hb:PE X b (fE K fb)):PE X (.BinOp a .Mod b pos) (fE K (aq ba fa fb)):=pD BQ FZ ha hb
theorem Dm(ha:PE X a (fE K fa))(hb:PE X b (fE K fb)):PE X (.BinOp a .Pow b pos) (fE K (aq vc fa fb)):=pD Ej Gg ha hb
theorem Gh(ha:PE X a (fE K fa))(hb:PE X b (fE K fb)):PE X (.BinOp a .LShift b pos) (fE K (aq Bv fa fb)):=pD El Gy ha hb
theorem aS(hK:X.K=K)(ha:PE X a (fE K fa))(hb:PE X b (fE K fb))(hs:nX b):PE X (.Subscript a b pos) (fE K (aq bD fa fb)):=Gi (hK ▸ Hs) Ht ha hb hs
theorem iq{fl fh:FO}(hK:X.K=K)(he:PE X a (fE K fa))(hl:PO X lo (fO K fl))(hh:PO X hi (fO K fh)):PE X (.Subscript a (.Slice lo hi none p2) pos) (fE K (sU fa fl fh)):=by subst hK;exact Aq he hl hh
structure sX (X:Cx) (K:⇑0) (op:CmpOp) (g:En→Rv→Rv→Option Rv):Prop where
  ex:∃r,jv X (compareOp op) r∧jw K r g
theorem yW:sX X K .Lt Bs:=⟨_,Gd,Hv⟩
theorem yV:sX X K .Gt C7:=⟨_,Gc,Hk⟩
theorem xF:sX X K .GtE Bq:=⟨_,Gb,Hj⟩
theorem p6{k:Nat}(hK:X.K=K)(hr:c9 k X.A):sX X K .Eq (di false):=⟨_,hK ▸ Ef hr,C5⟩
theorem tu{k:Nat}(hK:X.K=K)(hr:c9 k X.A):sX X K .NotEq (di true):=⟨_,hK ▸ Ei hr,C5⟩
theorem DK{k:Nat}(hK:X.K=K)(hr:c9 k X.A):sX X K .In (Br false):=⟨_,hK ▸ Eg hr,Hq⟩
theorem wX{op:CmpOp}{g:En→Rv→Rv→Option Rv}(h:sX X K op g)(ha:PE X a (fE K fa))(hb:PE X b (fE K fb))(hm:behindInMarks op b=false):PE X (.Compare a [op] [b] pos) (fE K (aq g fa fb)):=by
  obtain⟨r,h1,h2⟩:=h.ex;exact ED h1 h2 ha hb hm
theorem bb{op:CmpOp}{g:En→Rv→Rv→Option Rv}(h:sX X K op g)(ha:PE X a (fE K fa))(hb:PE X b (fE K fb))(hm:behindInMarks op b=false):PT X (.Compare a [op] [b] pos) (fT K (aQ (aq g fa fb))):=by
  obtain⟨r,h1,h2⟩:=h.ex;exact EK h1 h2 ha hb hm
structure pZ (X:Cx) (K:⇑0) (x:Str) (g:En→List Rv→Option Rv):Prop where
  ex:(∃id r,dW X (.builtin id) r∧eX K r g∧bootBuiltins x=some (.builtin id))∨∃T r,dW X (.type T) r∧eX K r g∧bootBuiltins x=some (.type T)
theorem a8{x:Str}{g:En→List Rv→Option Rv}(h:pZ X K x g)(hg:Gl X x)(hm:X.mg x=none)(ha:PA X (a::es) (fA K fs))(hn:x≠"__name__")(hdb:(x==("__debug__":Str))=false)
    (he:starEach (a::es) X.env=(false,eval a X.env)::starEach es X.env)(hpl:(backTo pos (starEach es X.env)).any (·.1)=false):PE X (.Call (.Name x p) (a::es) [] pos) (fE K (aM g fs)):=by
  rcases h.ex with ⟨id,r,h1,h2,h3⟩ | ⟨T,r,h1,h2,h3⟩
  · exact Ap h1 h2 hg hm h3 ha hn hdb he hpl
  · exact ye h1 h2 hg hm h3 ha hn hdb he hpl
theorem b_len(hK:X.K=K):pZ X K "len" (g1 fU):=⟨.inl ⟨_,_,hK ▸ lC,FV,PySem.boot_len⟩⟩
theorem b_abs:pZ X K "abs" (g1 u_):=⟨.inl ⟨_,_,yX,Fz,PyProof.Rows.boot_abs⟩⟩
theorem b_min(hc:X.calm=true):pZ X K "min" (g2 za):=⟨.inl ⟨_,_,xJ hc,FY,PyProof.Rows.boot_min⟩⟩
theorem b_max(hc:X.calm=true):pZ X K "max" (g2 xP):=⟨.inl ⟨_,_,xI hc,FX,PyProof.Rows.boot_max⟩⟩
theorem b_int:pZ X K "int" (g1 mw):=⟨.inr ⟨_,_,xG,FR,PyProof.Rows.boot_int⟩⟩
theorem b_tuple(hK:X.K=K):pZ X K "tuple" (g1 cf):=⟨.inr ⟨_,_,hK ▸ p7,CC,PyProof.Rows.boot_tuple⟩⟩
theorem b_sum{k:Nat}(hK:X.K=K)(hr:c9 k X.A):pZ X K "sum" (g1 (nD qJ)):=⟨.inl ⟨_,_,hK ▸ y0 hr,GC,PyProof.Rows.boot_sum⟩⟩
theorem b_sorted(hK:X.K=K):pZ X K "sorted" (g1 i_):=⟨.inl ⟨_,_,hK ▸ uX,Cq,PyProof.Rows.boot_sorted⟩⟩
theorem b_repr{k:Nat}(hK:X.K=K)(hr:c9 k X.A):pZ X K "repr" (g1 nB):=⟨.inl ⟨_,_,hK ▸ uW hr,EU,PyProof.Rows.boot_repr⟩⟩
abbrev bE:FT:=fun e=>some (true,e)
theorem uO.mono{ifs:List Expr}{t t':TT}(h:uO X ifs t)(m:∀σ H Q,t' σ H Q→t σ H Q):uO X ifs t':=fun pins s σ H Q I q=>h pins s σ H Q I (m σ H Q q)
theorem eS:uO X [] (fT K bE):=B'.mono fun σ H Q h=>by
  obtain⟨F,e,b,e',R,hf,q⟩:=h
  cases hf
  exact q F H (eH.refl _ _ _ _) R
theorem lZ{c:Expr}{ft:FT}(h:PT X c (fT K ft)):uO X [c] (fT K ft):=Ca h
theorem fZ{elt iter tg:Expr}{ifs:List Expr}{scope:Scope}{fi:FI}{g:FG}{ft:FT}{fe:FE}{W:List Nat}(sc0:Scope)(N0:List Str)(cp:List (Nat × Str))(tgN:List Str)
    (hc:X.calm=true)(hsc:X.env.scope=sc0)(hN0:X.N=N0)(hi:PI X tg iter (fI K fi))
    (hg:∀C s0 H0 fp,PG (av X scope cp tgN C s0 H0 fp) tg (fG K g W))
    (ht:∀C s0 H0 fp,uO (av X scope cp tgN C s0 H0 fp) ifs (fT K ft))
    (he:∀C s0 H0 fp,PE (av X scope cp tgN C s0 H0 fp) elt (fE K fe))
    (hk:scope.kind=.function)(hcell:∀y∈scope.names,y.2≠.cell)(hnames:∀y∈scope.names,y.2=.local→scope.names.lookup y.1=some .local)
    (hfr:∀y∈scope.names,y.2=.free→scope.names.lookup y.1=some .free∧sc0.names.lookup y.1=some .cell)
    (hcp:∀p∈cp,N0[p.1]?=some p.2)(hcq:∀p∈cp,sc0.names.lookup p.2=some .cell∧scope.names.lookup p.2=some .free)(hnd:(cp.map (·.1)).Nodup)(hW:∀j∈W,cp.length≤j)
    (hs:∀x,foldedSetIterable iter X.env x=pure x):
    PE X (.ListComp elt [⟨tg,iter,ifs,0⟩] scope pos) (fE K (bG cp tgN.length fi g ft fe)):=(B0 sc0 N0 cp tgN hc hsc hN0 hi hg ht he hk hcell hnames hfr hcp hcq hs).mono fun _ _ _ h=>uH hnd hW h
theorem yd{ix:Nat}{nm:Str}{posn poss:Pos}{elt iter tg:Expr}{ifs:List Expr}{scope:Scope}{fi:FI}{g:FG}{ft:FT}{fe:FE}{W:List Nat}(sc0:Scope)(N0:List Str)(cp:List (Nat × Str))(tgN:List Str)
    (hc:X.calm=true)(hsc:X.env.scope=sc0)(hN0:X.N=N0)(hi:PI X tg iter (fI K fi))
    (hg:∀C s0 H0 fp,PG (av X scope cp tgN C s0 H0 fp) tg (fG K g W))
    (ht:∀C s0 H0 fp,uO (av X scope cp tgN C s0 H0 fp) ifs (fT K ft))
    (he:∀C s0 H0 fp,PE (av X scope cp tgN C s0 H0 fp) elt (fE K fe))
    (hk:scope.kind=.function)(hcell:∀y∈scope.names,y.2≠.cell)(hnames:∀y∈scope.names,y.2=.local→scope.names.lookup y.1=some .local)
    (hfr:∀y∈scope.names,y.2=.free→scope.names.lookup y.1=some .free∧sc0.names.lookup y.1=some .cell)
    (hcp:∀p∈cp,N0[p.1]?=some p.2)(hcq:∀p∈cp,sc0.names.lookup p.2=some .cell∧scope.names.lookup p.2=some .free)(hnd:(cp.map (·.1)).Nodup)(hW:∀j∈W,cp.length≤j)
    (hNd:X.N.Nodup)(hix:X.N[ix]?=some nm)(hlc:X.env.scope.names.lookup nm=some .local)(hsw:swapsWith (.ListComp elt [⟨tg,iter,ifs,0⟩] scope pos) (some (.Name nm posn)) poss.line X.env=pure true)
    (hs:∀x,foldedSetIterable iter X.env x=pure x):
    PS X (.Assign [.Name nm posn] (.ListComp elt [⟨tg,iter,ifs,0⟩] scope pos) poss) (fS K (aV ix (bG cp tgN.length fi g ft fe)) [ix]):=(vE sc0 N0 cp tgN hc hsc hN0 hi hg ht he hk hcell hnames hfr hcp hcq hNd hix hlc hsw hs).mono fun D σ H h=>by
  obtain⟨F,e,fl,R,hf,q⟩:=h
  unfold aV at hf
  obtain⟨⟨r,e1⟩,h1,hf⟩:=LD hf
  obtain⟨e2,h2,hf⟩:=LF hf
  cases hf
  refine uH hnd hW ⟨F,e,r,e1,R,h1,fun F1 H1 v X1 R1 A1=>?_⟩
  obtain⟨x,R2⟩:=vH R X1 R1 A1 h2
  exact q F1 H1 _ x R2
variable{o:Expr}{fo:FE}{apos cpos:Pos}
theorem cX(hK:X.K=K)(ho:PE X o (fE K fo))(ha:PA X (a::es) (fA K fs))(hbase:attributeBase o "append" X.env (eval o X.env)=eval o X.env)
    (hfew:((backTo cpos (starEach (a::es) X.env)).all (fun x=> !x.1)&&(backToKw cpos (keywordEach [] X.env)).all (fun x=>x.1.isSome)
      &&decide ((a::es).length+([]:List Keyword).length+(if ([]:List Keyword).isEmpty then 0 else 1) < 30))=true)
    (hline:(apos.endLine==cpos.line)=true)(hs:starEach (a::es) X.env=(false,eval a X.env)::starEach es X.env)(hplain:(backTo cpos (starEach es X.env)).any (·.1)=false):
    PE X (.Call (.Attribute o "append" apos) (a::es) [] cpos) (fE K (ck bv fo fs)):=by
  subst hK;exact Dn PySem.F.slot_list_append PySem.F.type_list_append iS yL ho ha hbase hfew hline hs hplain
theorem sC(hK:X.K=K)(ho:PE X o (fE K fo))(ha:PA X (a::es) (fA K fs))(hbase:attributeBase o "pop" X.env (eval o X.env)=eval o X.env)
    (hfew:((backTo cpos (starEach (a::es) X.env)).all (fun x=> !x.1)&&(backToKw cpos (keywordEach [] X.env)).all (fun x=>x.1.isSome)
      &&decide ((a::es).length+([]:List Keyword).length+(if ([]:List Keyword).isEmpty then 0 else 1) < 30))=true)
    (hline:(apos.endLine==cpos.line)=true)(hs:starEach (a::es) X.env=(false,eval a X.env)::starEach es X.env)(hplain:(backTo cpos (starEach es X.env)).any (·.1)=false):
    PE X (.Call (.Attribute o "pop" apos) (a::es) [] cpos) (fE K (ck et fo fs)):=by
  subst hK;exact Dn PySem.F.slot_list_pop PySem.F.type_list_pop zC B8 ho ha hbase hfew hline hs hplain
end
theorem vL{K:⇑0}{H:Hp}{a:Addr}{ns:List Int}{m:FM}{as':List Sv}{Q:VK}{E:XK}(hS:dS K H a (ns.map V.int))(hm:m [.d (.list (ns.map .int))]=some (.d (.bool true),as'))(q:∀H',Q (.bl true) H'):bo K 1 m [.ref a] H Q E:=by
  refine⟨rfl,H,[.d (.list (ns.map .int))],_,as',?_,?_,hm,trivial,fun F' H' v X' R' A'=>?_⟩
  · refine⟨aC.refl _,rfl,fun i x h=>?_,fun i xs h=>?_,fun i xss h=>?_,fun i j l f1 _=>?_⟩
    · match i,h with
      | 0,h=>
        simp at h;subst h
        exact⟨.ref a,rfl,dh.mpr ⟨a,_,rfl,hS,aR.ints.mpr rfl⟩⟩
      | i+1,h=>simp at h
    · match i,h with
      | 0,h=>simp at h
      | i+1,h=>simp at h
    · match i,h with
      | 0,h=>simp at h
      | i+1,h=>simp at h
    · rcases f1 with ⟨_,h,_⟩ | ⟨_,_,_,h,_⟩
      · match i,h with
        | 0,h=>simp at h
        | i+1,h=>simp at h
      · match i,h with
        | 0,h=>simp at h
        | i+1,h=>simp at h
  · intro i xss h
    match i,h with
    | 0,h=>simp at h
    | i+1,h=>simp at h
  · rw [gg.mp (show DA K F' (.bool true) v from A')];exact q H'
section
variable{K:⇑0}{σ:L2.St}{H0 F H F' H':Hp}{e e':En}
theorem bc.putN(R:bc K F H σ e){i:Nat}{xss yss:List (List PyData)}{l:Addr}{bs:List Addr}{H':Hp}(hi:e[i]?=some (some (.n xss)))(hs:σ[i]?=some (some (.ref l)))
    (hF:F l=none)(hl:H' l=some (.lst (bs.map V.ref)))(hlen:bs.length=yss.length)(hnd:bs.Nodup)(hnl:l∉bs)(hin:∀(k:Nat) (b:Addr) (ys:List PyData),bs[k]?=some b→yss[k]?=some ys→F b=none∧∃us,H' b=some (.lst us)∧aR K F ys us)
    (hbs:∀b∈bs,Fp σ e H i b∨¬cn σ e H b)(hdom:∀a,H' a=none→H a=none)(hst:∀a o,H a=some o→a≠l→a∉bs→H' a=some o)(hlst:∀a vs,H a=some (.lst vs)→∃vs',H' a=some (.lst vs')):
    bc K F H' σ (e.set i (some (.n yss)))∧(∀a,cn σ (e.set i (some (.n yss))) H' a→cn σ e H a∨a∈bs)∧∀j:Nat,(∃xs,(e.set i (some (Sv.n yss)))[j]?=some (some (.l xs)))↔ (∃xs,e[j]?=some (some (.l xs))):=by
  have hlt:i < e.length:=(LG hi).1
  have gi:(e.set i (some (Sv.n yss)))[i]?=some (some (.n yss)):=List.getElem?_set_self hlt
  obtain⟨l0,bs0,a1,a2,a3,_⟩:=R.nst i xss hi
  rw [hs] at a1;cases a1
  have fl:Fp σ e H i l:=.inr ⟨xss,l,bs0,hi,hs,a3,.inl rfl⟩
  have own:∀j a,j≠i→Fp σ e H j a→a≠l∧a∉bs:=fun j a hj hq=>by
    refine⟨fun z=>hj (R.fp j i a hq (by rw [z];exact fl)),fun z=>?_⟩
    rcases hbs a z with h | h
    · exact hj (R.fp j i a hq h)
    · exact h ⟨j,hq⟩
  have fpi:∀a,Fp σ (e.set i (some (.n yss))) H' i a→a=l∨a∈bs:=fun a q=>by
    rcases q with ⟨zs,q,_⟩ | ⟨zss,l',bs',q,q2,q3,q4⟩
    · rw [gi] at q;cases q
    · rw [hs] at q2;cases q2
      rw [hl] at q3
      have e1:bs=bs':=List.map_inj_right (fun _ _ z=>V.ref.inj z) |>.mp (HO.lst.inj (Option.some.inj q3))
      subst e1;exact q4
  obtain⟨R',fs⟩:=R.upd1 (F':=F) (H':=H') (e':=e.set i (some (.n yss))) i (by rw [List.length_set];exact R.len) ↥4 (fun j hj=>List.getElem?_set_ne (Ne.symm hj)) (aC.refl F)
    (fun b o q=>by
      have z1:b≠l:=fun z=>by rw [z,hF] at q;cases q
      have z2:b∉bs:=fun z=>by
        obtain⟨k,hk⟩:=List.getElem?_of_mem z
        have hk2:k < yss.length:=by rw [←hlen];exact(LG hk).1
        rw [(hin k b yss[k] hk (List.getElem?_eq_getElem hk2)).1] at q;cases q
      exact hst b o (R.sm b o q) z1 z2)
    (fun j a _ q=>(R.fpAt q).1) (fun j a o hj q ha=>let ⟨z1,z2⟩:=own j a hj q;hst a o ha z1 z2)
    (fun x q=>by rw [gi] at q;cases q) (fun zs q=>by rw [gi] at q;cases q) (fun zss q=>by rw [gi] at q;cases q;exact⟨l,bs,hs,hF,hl,hlen,hnd,hnl,hin⟩)
    (fun a j hj q q2=>by
      obtain⟨z1,z2⟩:=own j a hj q2
      exact(fpi a q).elim z1 z2)
  refine⟨R',fun a ⟨j,q⟩=>?_,fun j=>?_⟩
  · by_cases z:j=i
    · subst z
      rcases fpi a q with z | z
      · exact .inl ⟨j,by rw [z];exact fl⟩
      · exact .inr z
    · exact .inl ⟨j,(fs j a z).mp q⟩
  · by_cases z:j=i
    · subst z;rw [gi,hi];simp
    · rw [List.getElem?_set_ne (Ne.symm z)]
theorem bc.frzN(R:bc K F H σ e){i:Nat}{xss:List (List PyData)}(hi:e[i]?=some (some (.n xss))):∃F' v,σ[i]?=some (some v)∧DA K F' (.list (xss.map .list)) v∧bc K F' H σ (e.set i (some (.d (.list (xss.map .list)))))∧eH σ F H e F' H (e.set i (some (.d (.list (xss.map .list))))):=by
  obtain⟨l,bs,a1,a2,a3,a4,a5,a6,a7⟩:=R.nst i xss hi
  have hlt:i < e.length:=(LG hi).1
  have inF:∀a,a=l∨a∈bs→Fp σ e H i a:=fun a h=>.inr ⟨xss,l,bs,hi,a1,a3,h⟩
  let F':Hp:=fun a=>if a=l∨a∈bs then H a else F a
  have pos:∀a,(a=l∨a∈bs)→F' a=H a:=fun a h=>if_pos h
  have neg:∀a,¬(a=l∨a∈bs)→F' a=F a:=fun a h=>if_neg h
  have sF:aC F F':=fun b o q=>by
    have z:¬(b=l∨b∈bs):=fun z=>by rw [(R.fpAt (inF b z)).1] at q;cases q
    rw [neg b z];exact q
  have sm:aC F' H:=fun b o q=>by
    by_cases z:b=l∨b∈bs
    · rw [pos b z] at q;exact q
    · rw [neg b z] at q;exact R.sm b o q
  have dd:∀(cs:List Addr) (yss:List (List PyData)),cs.length=yss.length→(∀(k:Nat) (b:Addr) (ys:List PyData),cs[k]?=some b→yss[k]?=some ys→b∈bs∧∃us,H b=some (.lst us)∧aR K F ys us)→aR K F' (yss.map .list) (cs.map V.ref):=by
    intro cs
    induction cs with
    | nil=>
      intro yss h _
      cases yss with
      | nil=>exact aR.nil
      | cons _ _=>simp at h
    | cons c cs ih=>
      intro yss h hh
      cases yss with
      | nil=>simp at h
      | cons ys yss=>
        obtain⟨c1,us,c2,c3⟩:=hh 0 c ys rfl rfl
        refine aR.cons (dh.mpr ⟨c,us,rfl,.inl (.inl ?_),c3.mono sF⟩) (ih yss (by simpa using h) fun k b zs q1 q2=>hh (k+1) b zs (by simpa using q1) (by simpa using q2))
        rw [pos c (.inr c1)];exact c2
  have da:DA K F' (.list (xss.map .list)) (.ref l):=dh.mpr ⟨l,_,rfl,.inl (.inl (by rw [pos l (.inl rfl)];exact a3)),dd bs xss a4 fun k b ys q1 q2=>by
    obtain⟨_,us,c2,c3⟩:=a7 k b ys q1 q2
    exact⟨LK q1,us,c2,c3⟩⟩
  have gi:(e.set i (some (Sv.d (.list (xss.map .list)))))[i]?=some (some (.d (.list (xss.map .list)))):=List.getElem?_set_self hlt
  have nofp:∀a,¬Fp σ (e.set i (some (.d (.list (xss.map .list))))) H i a:=fun a q=>by
    rcases q with ⟨zs,q,_⟩ | ⟨xss,_,_,q,_⟩
    · rw [gi] at q;cases q
    · rw [gi] at q;cases q
  obtain⟨R',fs⟩:=R.upd1 (F':=F') (H':=H) (e':=e.set i (some (.d (.list (xss.map .list))))) i (by rw [List.length_set];exact R.len) ↥4 (fun j hj=>List.getElem?_set_ne (Ne.symm hj)) sF sm
    (fun j a hj q=>by
      rw [neg a fun z=>hj (R.fp j i a q (inF a z))]
      exact(R.fpAt q).1)
    (fun j a o _ _ ha=>ha) (fun x q=>by rw [gi] at q;cases q;exact⟨_,a1,da⟩) (fun zs q=>by rw [gi] at q;cases q) (fun zss q=>by rw [gi] at q;cases q) (fun a j hj q=>absurd q (nofp a))
  refine⟨F',.ref l,a1,da,R',⟨sF,fun _ h=>h,fun a vs h1 h2 h3=>?_,fun a vs h=>⟨vs,h⟩,fun _ _ h _=>h,fun j=>?_,fun a ⟨j,q⟩=>?_,fun a m h1 h2 h3=>by rw [neg a fun z=>h3 ⟨i,inF a z⟩];exact h1⟩⟩
  · rw [neg a fun z=>h3 ⟨i,inF a z⟩];exact h1
  · by_cases z:j=i
    · subst z;rw [gi,hi];simp
    · rw [List.getElem?_set_ne (Ne.symm z)]
  · by_cases z:j=i
    · subst z;exact absurd q (nofp a)
    · exact .inl ⟨j,(fs j a z).mp q⟩
theorem bc.setN(R:bc K F H σ e)(i:Nat){l:Addr}(h1:F l=none)(h2:H l=some (.lst []))(h4:¬cn σ e H l):bc K F H (σ.set i (some (.ref l))) (e.set i (some (.n [])))∧∀a,cn (σ.set i (some (.ref l))) (e.set i (some (.n []))) H a→cn σ e H a∨a=l:=by
  have gi:∀s,(e.set i (some (Sv.n [])))[i]?=some (some s)→s=.n []∧i < e.length:=fun s q=>by
    have hlt:i < e.length:=by have:=(LG q).1;simpa using this
    rw [List.getElem?_set_self hlt] at q
    exact⟨(Option.some.inj (Option.some.inj q)).symm,hlt⟩
  have onefp:∀a,Fp (σ.set i (some (.ref l))) (e.set i (some (.n []))) H i a→a=l:=fun a q=>by
    rcases q with ⟨zs,q,q2⟩ | ⟨xss,l',bs,q,q2,q3,q4⟩
    · cases (gi _ q).1
    · obtain⟨_,hlt⟩:=gi _ q
      rw [List.getElem?_set_self (by rw [R.len];exact hlt)] at q2
      cases q2
      rw [h2] at q3
      have:bs=[]:=by
        cases bs with
        | nil=>rfl
        | cons _ _=>have z:=HO.lst.inj (Option.some.inj q3);simp at z
      subst this
      exact q4.elim id fun z=>by cases z
  obtain⟨R',fs⟩:=R.upd1 (F':=F) (H':=H) (σ':=σ.set i (some (.ref l))) (e':=e.set i (some (.n []))) i (by rw [List.length_set,List.length_set];exact R.len) (fun j hj=>List.getElem?_set_ne (Ne.symm hj)) (fun j hj=>List.getElem?_set_ne (Ne.symm hj)) (aC.refl F) R.sm
    (fun j a _ q=>(R.fpAt q).1) (fun j a o _ _ ha=>ha) (fun y q=>by cases (gi _ q).1) (fun zs q=>by cases (gi _ q).1)
    (fun zss q=>by
      obtain⟨z,hlt⟩:=gi _ q
      cases z
      exact⟨l,[],List.getElem?_set_self (by rw [R.len];exact hlt),h1,h2,rfl,List.nodup_nil,by simp,fun k b ys q=>by simp at q⟩)
    (fun a j hj q q2=>h4 ⟨j,by rw [onefp a q] at q2;exact q2⟩)
  refine⟨R',fun a ⟨j,q⟩=>?_⟩
  by_cases z:j=i
  · subst z;exact .inr (onefp a q)
  · exact .inl ⟨j,(fs j a z).mp q⟩
end
def dj(e:En)(i:Nat):Option (List (List PyData)):=match e[i]? with
  | some (some (.n xss))=>some xss
  | _=>none
theorem gw{e:En}{i:Nat}{xss:List (List PyData)}(h:dj e i=some xss):e[i]?=some (some (.n xss)):=by
  unfold dj at h
  split at h
  · rename_i heq;cases h;exact heq
  · cases h
section
variable{X:Cx}{K:⇑0}{a b:Expr}{es:List Expr}{fa fb:FE}{fs:FA}{pos p p2 p3 pos':Pos}{x:Str}{i:Nat}
def AI(i:Nat):FS:=fun e=>some (.nx (e.set i (some (.n []))))
theorem Cg(hN:X.N.Nodup)(hi:X.N[i]?=some x)(hx:DC X.env.scope x)(hs:swapsWith (.List [] p) (some (.Name x pos')) pos.line X.env=pure false)(hf:X.fn x=true∨X.env.scope.names.lookup x=some .local):
    PS X (.Assign [.Name x pos'] (.List [] p) pos) (fS K (AI i) [i]):=(sx hN hi hx (zV jh) hs hf).mono fun D σ H h=>by
  obtain⟨F,e,fl,R,hf,q⟩:=h
  cases hf
  refine⟨Nat.zero_le _,fun l hl=>?_⟩
  obtain⟨R1,X1,f1,n1⟩:=R.newL (vs:=[]) hl
  obtain⟨R2,o2⟩:=R1.setN i f1 az n1
  refine q F _ _ ⟨X1.sf,X1.dom,X1.fr,X1.lst,X1.tmp,fun a h=>?_,fun j n=>List.getElem?_set_ne (fun z=>n (by simp [z])),X1.fd⟩ R2
  rcases o2 a h with z | z
  · exact X1.ow a z
  · exact .inr (by rw [z];exact hl)
def j2(i:Nat):FE:=fun e=>(dj e i).map fun xss=>(.d (.int xss.length),e)
theorem sA(hK:X.K=K)(hN:X.N[i]?=some x)(hv:yK X.env.scope x)(hd:(x==("__debug__":Str))=false)(hcd:(x==("__classdict__":Str))=false)(hg:Gl X "len")(hm:X.mg "len"=none)(hst:PySem.W.isStarred (.Name x p2)=false)
    (he:starEach [.Name x p2] X.env=(false,eval (.Name x p2) X.env)::starEach [] X.env)(hpl:(backTo pos (starEach [] X.env)).any (·.1)=false):PE X (.Call (.Name "len" p) [.Name x p2] [] pos) (fE K (j2 i)):=
  (lT (xH hK) hg hm PySem.boot_len (BW (jR hN hv hd hcd) jh hst) ⋯ ⋯ he hpl).mono fun σ H Q h=>by
  obtain⟨F,e,z,e',R,hf,q⟩:=h
  unfold j2 at hf
  obtain⟨xss,h1,hf⟩:=LF hf
  cases hf
  obtain⟨l,bs,a1,a2,a3,a4,_⟩:=R.nst i xss (gw h1)
  refine⟨_,a1,l,_,rfl,.inl (.inl (.inl a3)),?_⟩
  rw [List.length_map,a4]
  exact q F H _ (eH.refl _ _ _ _) R mO
def rA(i:Nat)(fa:FE):FE:=fun e=>(dj e i).bind fun _=>(fa e).bind fun p=>match p.1 with
  | .l ys=>(dj p.2 i).bind fun xss=>if xss.length < 1000000 then some (.d .none,p.2.set i (some (.n (xss++[ys])))) else none
  | _=>none
theorem EB{apos cpos:Pos}(hK:X.K=K)(hN:X.N[i]?=some x)(hv:yK X.env.scope x)(hd:(x==("__debug__":Str))=false)(hcd:(x==("__classdict__":Str))=false)(ha:PE X a (fE K fa))(hst:PySem.W.isStarred a=false)
    (hbase:attributeBase (.Name x p) "append" X.env (eval (.Name x p) X.env)=eval (.Name x p) X.env)
    (hfew:((backTo cpos (starEach [a] X.env)).all (fun x=> !x.1)&&(backToKw cpos (keywordEach [] X.env)).all (fun x=>x.1.isSome)
      &&decide ([a].length+([]:List Keyword).length+(if ([]:List Keyword).isEmpty then 0 else 1) < 30))=true)
    (hline:(apos.endLine==cpos.line)=true)(hs:starEach [a] X.env=(false,eval a X.env)::starEach [] X.env)(hplain:(backTo cpos (starEach [] X.env)).any (·.1)=false):
    PE X (.Call (.Attribute (.Name x p) "append" apos) [a] [] cpos) (fE K (rA i fa)):=by
  subst hK
  refine(zR PySem.F.plainAttrs_list PySem.F.slot_list_append PySem.F.type_list_append iS (jR hN hv hd hcd) (BW ha jh hst) hbase hfew hline hs hplain).mono fun σ H Q h=>?_
  obtain⟨F,e,z,e',R,hf,q⟩:=h
  unfold rA at hf
  obtain⟨xss0,h0,hf⟩:=LD hf
  obtain⟨⟨r,e1⟩,h1,hf⟩:=LD hf
  match r,h1,hf with
  | .l ys,h1,hf=>
  obtain⟨xss,h2,hf⟩:=LD hf
  split at hf
  case isFalse=>cases hf
  case isTrue hlen=>
  cases hf
  obtain⟨l,bs0,a1,_,a3,_⟩:=R.nst i xss0 (gw h0)
  refine⟨_,a1,.inl ⟨rfl,_,.inl (.inl a3)⟩,F,e,_,e1,R,h1,fun F1 H1 v X1 R1 A1=>?_⟩
  obtain⟨t,us,rfl,t1,t2,t3,t4,t5⟩:=A1
  have h2':=gw h2
  obtain⟨l',bs,c1,c2,c3,c4,c5,c6,c7⟩:=R1.nst i xss h2'
  rw [a1] at c1;cases c1
  have fi:∀z,z=l∨z∈bs→Fp σ e1 H1 i z:=fun z h=>.inr ⟨xss,l,bs,h2',a1,c3,h⟩
  have tl:t≠l:=fun z=>t5 ⟨i,fi t (.inl z)⟩
  have tb:t∉bs:=fun z=>t5 ⟨i,fi t (.inr z)⟩
  have sl:sizeLine=16777216:=sizeLine_eq
  refine⟨l,_,_,rfl,rfl,c3,by rw [List.length_map,c4];lia,?_⟩
  have em:bs.map V.ref++[V.ref t]=(bs++[t]).map V.ref:=by simp
  rw [em]
  obtain⟨R2,o2,s2⟩:=R1.putN (yss:=xss++[ys]) (bs:=bs++[t]) (H':=a_ H1 l (.lst ((bs++[t]).map V.ref))) h2' a1 c2 az (by simp [c4]) (by
      rw [List.nodup_append]
      exact⟨c5,by simp,fun x hx y hy=>by simp at hy;subst hy;exact fun z=>tb (z ▸ hx)⟩) (by simp [c6,Ne.symm tl]) (fun k b zs q1 q2=>by
      rw [List.getElem?_append] at q1 q2
      rw [c4] at q1
      by_cases hk:k < xss.length
      · rw [if_pos hk] at q1 q2
        obtain⟨d1,us',d2,d3⟩:=c7 k b zs q1 q2
        have zb:b≠l:=fun z=>c6 (z ▸ LK q1)
        exact⟨d1,us',by rw [ar zb];exact d2,d3⟩
      · rw [if_neg hk] at q1 q2
        have hk0:k - xss.length=0:=by
          have:=(LG q1).1
          simp at this;lia
        rw [hk0] at q1 q2
        simp at q1 q2
        subst q1 q2
        exact⟨t2,us,by rw [ar tl];exact t3,t4⟩)
    (fun b hb=>by
      rcases LH hb with hb | hb
      · exact .inl (fi b (.inr hb))
      · simp at hb;subst hb;exact .inr t5)
    (fun z q=>by
      by_cases e0:z=l
      · rw [e0,az] at q;cases q
      · rw [ar e0] at q;exact q)
    (fun z o q n1 _=>by rw [ar n1];exact q) (fun z vs q=>by
      by_cases e0:z=l
      · rw [e0];exact⟨_,az⟩
      · rw [ar e0];exact⟨vs,q⟩)
  refine q F1 _ .non ⟨X1.sf,fun z q=>X1.dom z ?_,X1.fr,fun z vs h=>?_,fun z o h n=>?_,fun j=>(s2 j).trans (X1.shp j),fun z h=>?_,X1.fd⟩ R2 ((oh (K:=X.K) (F:=F1)).mpr rfl)
  · by_cases e0:z=l
    · rw [e0,az] at q;cases q
    · rw [ar e0] at q;exact q
  · obtain⟨vs',h'⟩:=X1.lst z vs h
    by_cases e0:z=l
    · rw [e0];exact⟨_,az⟩
    · rw [ar e0];exact⟨vs',h'⟩
  · have e0:z≠l:=fun e0=>by
      rcases X1.ow z ⟨i,fi z (.inl e0)⟩ with w | w
      · exact n w
      · rw [h] at w;cases w
    rw [ar e0];exact X1.tmp z o h n
  · rcases o2 z h with w | w
    · exact X1.ow z w
    · rcases LH w with w | w
      · exact X1.ow z ⟨i,fi z (.inr w)⟩
      · simp at w;subst w;exact .inr t1
def Qt(X:Cx)(K:⇑0)(a:Expr)(f:En→Option Int):Prop:=∃t:TE,PE X a t∧∀σ F H e i (Q:VK),bc K F H σ e→f e=some i→Q (.int i) H→t σ H Q
def zE(i:Nat):En→Option Int:=fun e=>match e[i]? with
  | some (some (.d (.int k)))=>some k
  | _=>none
theorem EI(i:Nat)(hN:X.N[i]?=some x)(hv:yK X.env.scope x)(hd:(x==("__debug__":Str))=false)(hcd:(x==("__classdict__":Str))=false):Qt X K (.Name x pos) (zE i):=⟨_,jR hN hv hd hcd,fun σ F H e k Q R hf q=>by
  unfold zE at hf
  split at hf
  · rename_i heq
    cases hf
    obtain⟨v,h1,h2⟩:=R.dat i _ heq
    exact⟨v,h1,by rw [bR.mp h2];exact q⟩
  · cases hf⟩
def nC(k:Int):En→Option Int:=fun _=>some k
theorem EH{k:Int}{j}:Qt X K (.Constant (.int k) j pos) (nC k):=⟨_,zT,fun σ F H e i Q R hf q=>by cases hf;exact q⟩
def zD(f g:En→Option Int):En→Option Int:=fun e=>(f e).bind fun i=>(g e).map fun j=>i+j
theorem EG{f g:En→Option Int}(ha:Qt X K a f)(hb:Qt X K b g):Qt X K (.BinOp a .Add b pos) (zD f g):=by
  obtain⟨ta,h1,h2⟩:=ha
  obtain⟨tb,h3,h4⟩:=hb
  refine⟨_,Di zO h1 h3,fun σ F H e k Q R hf q=>?_⟩
  unfold zD at hf
  obtain⟨i,g1,hf⟩:=LD hf
  obtain⟨j,g2,hf⟩:=LF hf
  cases hf
  exact h2 σ F H e i _ R g1 (h4 σ F H e j _ R g2 ⟨i,j,rfl,rfl,q⟩)
def uk(i:Nat)(fv fp:FE)(fq:En→Option Int):FS:=fun e=>(fv e).bind fun r=>(kW r.1).bind fun d=>(dj r.2 i).bind fun _=>(fp r.2).bind fun p=>(bA p.1).bind fun k=>(dj p.2 i).bind fun xss=>(r6 xss.length k).bind fun kn=>(xss[kn]?).bind fun ys=>(fq p.2).bind fun j=>(r6 ys.length j).map fun jn=>.nx (p.2.set i (some (.n (xss.set kn (ys.set jn d)))))
theorem Ci{c pq:Expr}{fv fp:FE}{fq:En→Option Int}{ps ps2:Pos}(hK:X.K=K)(he:PE X c (fE K fv))(hN:X.N[i]?=some x)(hv:yK X.env.scope x)(hd:(x==("__debug__":Str))=false)(hcd:(x==("__classdict__":Str))=false)(hp:PE X a (fE K fp))(hpl:nX a)(hq:Qt X K pq fq)
    (ha:∀v,assign (.Subscript (.Subscript (.Name x p) a ps2) pq ps) X.env v=(do
      let ov ←holding [v] (eval (.Subscript (.Name x p) a ps2) X.env)
      let iv ←holding [v,ov] (eval pq X.env)
      standAt ps
      holding [v,ov,iv] (setItem ov iv v)
      release [v,ov,iv] []))
    (hs:swapsWithSole [.Subscript (.Subscript (.Name x p) a ps2) pq ps] c pos.line X.env=pure false)(hw:swappedStores [.Subscript (.Subscript (.Name x p) a ps2) pq ps] c X.env=pure none)
    (h1:(assignEach [.Subscript (.Subscript (.Name x p) a ps2) pq ps] X.env).map (·.2)=[assign (.Subscript (.Subscript (.Name x p) a ps2) pq ps) X.env]):
    PS X (.Assign [.Subscript (.Subscript (.Name x p) a ps2) pq ps] c pos) (fS K (uk i fv fp fq) []):=by
  obtain⟨tq,q1,q2⟩:=hq
  refine(vD he (zZ (Dh (zr hK) (jR hN hv hd hcd) hp hpl) q1 uw ha) hs hw h1).mono fun D σ H h=>?_
  obtain⟨F,e,fl,R,hf,q⟩:=h
  unfold uk at hf
  obtain⟨⟨r,e1⟩,g1,hf⟩:=LD hf
  obtain⟨d,g2,hf⟩:=LD hf
  obtain⟨xs0,g3,hf⟩:=LD hf
  obtain⟨⟨rp,e2⟩,g4,hf⟩:=LD hf
  obtain⟨k,g5,hf⟩:=LD hf
  obtain⟨xss,g6,hf⟩:=LD hf
  obtain⟨kn,g7,hf⟩:=LD hf
  obtain⟨ys,g8,hf⟩:=LD hf
  obtain⟨j,g9,hf⟩:=LD hf
  obtain⟨jn,g10,hf⟩:=LF hf
  cases hf
  refine⟨F,e,r,e1,R,g1,fun F1 H1 v X1 R1 A1=>?_⟩
  obtain⟨l,bs0,a1,_⟩:=R1.nst i xs0 (gw g3)
  refine⟨_,a1,F1,e1,rp,e2,R1,g4,fun F2 H2 w X2 R2 A2=>?_⟩
  have X12:=X1.trans X2
  obtain⟨F3,R3,s3,d3,f3⟩:=b_.frozen R2 (rs:=[r]) (vs:=[v]) ⟨v,[],rfl,A1.ext X2,rfl⟩ (j4 g2)
  have X13:=X12.frz s3 f3
  have g6':=gw g6
  obtain⟨l',bs,c1,c2,c3,c4,c5,c6,c7⟩:=R3.nst i xss g6'
  rw [a1] at c1;cases c1
  obtain⟨b,hb⟩:∃b,bs[kn]?=some b:=⟨bs[kn]'(by rw [c4];exact(LG g8).1),List.getElem?_eq_getElem _⟩
  obtain⟨b1,us,b2,b3⟩:=c7 kn b ys hb g8
  have fi:∀z,z=l∨z∈bs→Fp σ e2 H2 i z:=fun z h=>.inr ⟨xss,l,bs,g6',a1,c3,h⟩
  have bm:b∈bs:=LK hb
  have bl:b≠l:=fun z=>c6 (z ▸ bm)
  refine⟨l,_,k,.ref b,rfl,cg A2 g5,.inl (.inl c3),?_,q2 σ F3 H2 e2 j _ R3 g9 ?_⟩
  · unfold atI
    rw [List.length_map,c4,g7]
    show(bs.map V.ref)[kn]?=_
    rw [List.getElem?_map,hb];rfl
  refine⟨b,us,j,jn,rfl,rfl,b2,by rw [←b3.len];exact g10,?_⟩
  have dv:DA K F3 d v:=by
    simp only [aR] at d3
    obtain⟨v',r',e',hv,_⟩:=d3
    cases e';exact hv
  obtain⟨R4,o4,s4⟩:=R3.putN (yss:=xss.set kn (ys.set jn d)) (bs:=bs) (H':=a_ H2 b (.lst (us.set jn v))) g6' a1 c2 (by rw [ar (Ne.symm bl)];exact c3) (by simp [c4]) c5 c6 (fun m z zs z1 z2=>by
      by_cases em:m=kn
      · subst em
        rw [hb] at z1;cases z1
        rw [List.getElem?_set_self (by exact(LG g8).1)] at z2
        cases z2
        exact⟨b1,_,az,b3.set dv jn⟩
      · rw [List.getElem?_set_ne (Ne.symm em)] at z2
        obtain⟨d1,us',d2,d3⟩:=c7 m z zs z1 z2
        have zb:z≠b:=fun ez=>by
          subst ez
          exact em ((List.getElem?_inj (LG z1).1 c5).mp (z1.trans hb.symm))
        exact⟨d1,us',by rw [ar zb];exact d2,d3⟩)
    (fun z hz=>.inl (fi z (.inr hz)))
    (fun z q=>by
      by_cases e0:z=b
      · rw [e0,az] at q;cases q
      · rw [ar e0] at q;exact q)
    (fun z o q _ n2=>by
      have e0:z≠b:=fun e0=>n2 (by rw [e0];exact bm)
      rw [ar e0];exact q) (fun z vs q=>by
      by_cases e0:z=b
      · rw [e0];exact⟨_,az⟩
      · rw [ar e0];exact⟨vs,q⟩)
  refine q F3 _ σ ⟨X13.sf,fun z q=>X13.dom z ?_,X13.fr,fun z vs h=>?_,fun z o h n=>?_,fun z h=>?_,fun _ _=>rfl,X13.fd⟩ R4
  · by_cases e0:z=b
    · rw [e0,az] at q;cases q
    · rw [ar e0] at q;exact q
  · obtain⟨vs',h'⟩:=X13.lst z vs h
    by_cases e0:z=b
    · rw [e0];exact⟨_,az⟩
    · rw [ar e0];exact⟨vs',h'⟩
  · have e0:z≠b:=fun e0=>by
      rcases X13.ow z ⟨i,fi z (.inr (by rw [e0];exact bm))⟩ with w | w
      · exact n w
      · rw [h] at w;cases w
    rw [ar e0];exact X13.tmp z o h n
  · rcases o4 z h with w | w
    · exact X13.ow z w
    · exact X13.ow z ⟨i,fi z (.inr w)⟩
def zm(i:Nat):FI:=fun e=>(dj e i).map fun xss=>(xss.map .list,[],e.set i (some (.d (.list (xss.map .list)))))
theorem Ce{tg:Expr}(hK:X.K=K)(hN:X.N[i]?=some x)(hv:yK X.env.scope x)(hd:(x==("__debug__":Str))=false)(hcd:(x==("__classdict__":Str))=false):PI X tg (.Name x pos) (fI K (zm i)):=(ue (tg:=tg) hK (jR hN hv hd hcd)).mono fun σ H R hh=>by
  obtain⟨F,e,items,own,e',R0,hf,q⟩:=hh
  unfold zm at hf
  obtain⟨xss,h1,hf⟩:=LF hf
  cases hf
  obtain⟨F',v,c1,c2,R1,X1⟩:=R0.frzN (gw h1)
  obtain⟨l,vs,rfl,d1,d2⟩:=dh.mp c2
  exact⟨_,c1,l,rfl,⟨vs,R1.sm.seq d1⟩,q _ F' H X1 R1 (fun _ h=>by cases h) (qP (.lst d1 d2))⟩
def CG(fo fa:FE):FE:=fun e=>(fo e).bind fun o=>(fa o.2).bind fun p=>match p.1 with
  | .l ys=>(mQ p.2 o.1).bind fun s=>if s.2.length+ys.length≤1000000 then some (.d .none,p.2.set s.1 (some (.l (s.2++ys)))) else none
  | _=>none
theorem Ao{o:Expr}{fo:FE}{apos cpos:Pos}(hK:X.K=K)(ho:PE X o (fE K fo))(ha:PE X a (fE K fa))(hst:PySem.W.isStarred a=false)
    (hbase:attributeBase o "extend" X.env (eval o X.env)=eval o X.env)
    (hfew:((backTo cpos (starEach [a] X.env)).all (fun x=> !x.1)&&(backToKw cpos (keywordEach [] X.env)).all (fun x=>x.1.isSome)
      &&decide ([a].length+([]:List Keyword).length+(if ([]:List Keyword).isEmpty then 0 else 1) < 30))=true)
    (hline:(apos.endLine==cpos.line)=true)(hs:starEach [a] X.env=(false,eval a X.env)::starEach [] X.env)(hplain:(backTo cpos (starEach [] X.env)).any (·.1)=false):
    PE X (.Call (.Attribute o "extend" apos) [a] [] cpos) (fE K (CG fo fa)):=by
  subst hK
  refine(zR PySem.F.plainAttrs_list PySem.F.slot_list_extend PySem.F.type_list_extend xV ho (BW ha jh hst) hbase hfew hline hs hplain).mono fun σ H Q h=>?_
  obtain⟨F,e,z,e',R,hf,q⟩:=h
  unfold CG at hf
  obtain⟨⟨ro,e1⟩,h1,hf⟩:=LD hf
  obtain⟨⟨r,e2⟩,h2,hf⟩:=LD hf
  match r,h2,hf with
  | .l ys,h2,hf=>
  obtain⟨⟨n,xs⟩,h3,hf⟩:=LD hf
  split at hf
  case isFalse=>cases hf
  case isTrue hlen=>
  cases hf
  obtain⟨z3,h3'⟩:=qZ h3
  dsimp only at z3 h3'
  subst z3
  refine⟨F,e,_,e1,R,h1,fun F1 H1 v X1 R1 A1=>?_⟩
  obtain⟨s1,zs,s2⟩:=A1
  obtain⟨l,vs,c1,c2,c3,c4⟩:=R1.own n zs s2
  rw [s1] at c1;cases c1
  refine⟨.inl ⟨rfl,vs,.inl (.inl c3)⟩,F1,e1,_,e2,R1,h2,fun F2 H2 w X2 R2 A2=>?_⟩
  obtain⟨t,us,rfl,t1,t2,t3,t4,t5⟩:=A2
  obtain⟨l',vs',d1,d2,d3,d4⟩:=R2.own n xs h3'
  rw [s1] at d1;cases d1
  have l1:=d4.len
  have l2:=t4.len
  have sl:sizeLine=16777216:=sizeLine_eq
  dsimp only at hlen
  refine⟨l,t,vs',us,rfl,rfl,d3,t3,by lia,?_⟩
  obtain⟨R3,X3⟩:=R2.putL h3' s1 (d4.append t4)
  exact q _ _ _ ((X1.trans X2).trans X3) R3 ((oh (K:=X.K) (F:=F2)).mpr rfl)
end
theorem kX{C:Int→Int→Bool}{f:Int→Int→PyData}{e:En}{i j:Int}(h:C i j=true):gI C f e (.d (.int i)) (.d (.int j))=some (.d (f i j)):=by simp [gI,bA,h]
theorem dm{e:En}{i j:Int}:bL e (.d (.int i)) (.d (.int j))=some (.d (.int (i+j))):=rfl
theorem cU{e:En}{i j:Int}:jK e (.d (.int i)) (.d (.int j))=some (.d (.int (i - j))):=rfl
theorem bT{e:En}{i j:Int}(h:kY i j=true):bQ e (.d (.int i)) (.d (.int j))=some (.d (.int (i*j))):=by
  unfold bQ ze oI;rw [kX h];rfl
theorem vq{i j:Int}(h1: -(2 ^ 64) < i)(h2:i < 2 ^ 64):kY i j=true:=by
  have:jk i=true:=by unfold jk;rw [decide_eq_true h1,decide_eq_true h2];rfl
  unfold kY;rw [this];simp
theorem si{i j:Int}(h1: -(2 ^ 64) < j)(h2:j < 2 ^ 64):kY i j=true:=by
  have:jk j=true:=by unfold jk;rw [decide_eq_true h1,decide_eq_true h2];rfl
  unfold kY;rw [this];simp
theorem iE{i j:Int}(h1:Bt 4000 i)(h2:Bt 4000 j):kY i j=true:=by unfold kY;rw [i6.mpr h1,i6.mpr h2];simp
theorem aO{e:En}{i j:Int}(h:0 < j):ba e (.d (.int i)) (.d (.int j))=some (.d (.int (i % j))):=by
  unfold ba;rw [kX ↥7]
  rw [Int.fmod_eq_emod_of_nonneg i ↥0]
theorem eM{e:En}{i j:Int}(h:0 < j)(h2:Bt 8000 j):eh e (.d (.int i)) (.d (.int j))=some (.d (.int (i / j))):=by
  unfold eh;rw [kX (by simp [i6.mpr h2];lia)]
  rw [Int.fdiv_eq_ediv_of_nonneg i ↥0]
theorem ic{e:En}{i j:Int}{neg:Bool}:di neg e (.d (.int i)) (.d (.int j))=some (.d (.bool (if neg then !(i==j) else i==j))):=by
  unfold di;simp [lG,SeqAt.shaped,PyData.canLay0,PyData.depth,PyData.eqv]
theorem io{e:En}{i j:Int}:Bs e (.d (.int i)) (.d (.int j))=some (.d (.bool (decide (i < j)))):=rfl
theorem ik{e:En}{i j:Int}:Ik e (.d (.int i)) (.d (.int j))=some (.d (.bool (decide (i≤j)))):=rfl
theorem ig{e:En}{i j:Int}:C7 e (.d (.int i)) (.d (.int j))=some (.d (.bool (decide (j < i)))):=rfl
theorem ie{e:En}{i j:Int}:Bq e (.d (.int i)) (.d (.int j))=some (.d (.bool (decide (j≤i)))):=rfl
theorem fx{e:En}{i j:Int}:g2 za e [.d (.int i),.d (.int j)]=some (.d (.int (min i j))):=by
  show some (Rv.d (.int (if j < i then j else i)))=_
  congr 3
  split<;>lia
theorem fw{e:En}{i j:Int}:g2 xP e [.d (.int i),.d (.int j)]=some (.d (.int (max i j))):=by
  show some (Rv.d (.int (if j > i then j else i)))=_
  congr 3
  split<;>lia
theorem fy{e:En}{i:Int}:oJ e (.d (.int i))=some (.d (.int (-i))):=rfl
theorem dN{e:En}{b:Bool}:g1 mw e [.d (.bool b)]=some (.d (.int (if b then 1 else 0))):=rfl
theorem fj{e:En}{i:Int}:g1 u_ e [.d (.int i)]=some (.d (.int i.natAbs)):=by
  show some (Rv.d (.int (if i < 0 then -i else i)))=_
  congr 3
  split<;>lia
theorem kR{j:Int}(h1:0 < j)(h2:j < 2 ^ 64):Bt 8000 j:=Bt.mono (m:=64) (by unfold Bt;lia) ⋯
theorem gC{α:Type}{xs:List α}{i:Int}(h0:0≤i)(h:i < xs.length):atI xs i=xs[i.toNat]?:=by
  unfold atI r6
  rw [if_pos h0,if_pos h];rfl
theorem lK{e:En}{i:Nat}{xs:List PyData}{neg:Bool}(h:e[i]?=some (some (.l xs)))(hs:SeqAt.shaped (.list xs)=true):di neg e (.s i) (.l [])=some (.d (.bool (if neg then !xs.isEmpty else xs.isEmpty))):=by
  unfold di
  simp only [lG,h,Option.bind_some,hs]
  have h0:SeqAt.shaped (.list [])=true:=by simp [SeqAt.shaped,PyData.canLay0,PyData.canLayAll0,PyData.depth,PyData.depthAll]
  rw [h0]
  cases xs<;>simp [PyData.eqv,PyData.eqvAll]
theorem jW(ns:List Int):SeqAt.shaped (.list (ns.map .int))=true∧SeqAt.shaped (.tuple (ns.map .int))=true:=by
  have h1:PyData.canLayAll0 (ns.map PyData.int)=true:=by
    induction ns with
    | nil=>rfl
    | cons n r ih=>simp [PyData.canLayAll0,PyData.canLay0,ih]
  have h2:PyData.depthAll (ns.map PyData.int)=0:=by
    clear h1
    induction ns with
    | nil=>rfl
    | cons n r ih=>simp [PyData.depthAll,PyData.depth,ih]
  constructor<;>simp [SeqAt.shaped,PyData.canLay0,PyData.depth,h1,h2]
theorem cI{own:hZ}{g:FG}{f:FS}(P:Nat→En→Prop):∀(items:List PyData) (k:Nat) (e:En),(∀i x e,items[i]?=some x→P (k+i) e→∃e1 e2,g x e=some e1∧f e1=some (.nx e2)∧keeps own e2∧P (k+i+1) e2)→P k e→∃e',iz own g f items e=some (.nx e')∧P (k+items.length) e'
  | [],k,e,_,h=>⟨e,rfl,h⟩
  | x::r,k,e,hs,h=>by
    obtain⟨e1,e2,h1,h2,h3,h4⟩:=hs 0 x e rfl h
    obtain⟨e',h5,h6⟩:=cI P r (k+1) e2 (fun i y e hy hp=>by
      have:=hs (i+1) y e (by simpa using hy) (by rw [show k+(i+1)=k+1+i by lia];exact hp)
      rw [show k+(i+1)+1=k+1+i+1 by lia] at this
      exact this) h4
    refine⟨e',?_,by rw [List.length_cons,show k+(r.length+1)=k+1+r.length by lia];exact h6⟩
    unfold iz
    simp only [h1,h2,Option.bind_some,if_pos h3]
    exact h5
theorem bh{e:En}:keeps [] e:=fun _ h=>by cases h
theorem cQ{W:List Nat}{fi:FI}{g:FG}{f:FS}{e e1:En}{items:List PyData}(h:fi e=some (items,[],e1)):cN W fi g f e=iz [] g f items e1:=by
  unfold cN;rw [h];rfl
theorem cy{lo:Int}{n i:Nat}{x:PyData}(h:(bu lo n)[i]?=some x):x=.int (lo+i)∧i < n:=by
  unfold bu at h
  rw [List.getElem?_map] at h
  obtain⟨k,h1,rfl⟩:=LF h
  obtain⟨h2,h3⟩:=LG h1
  simp at h2 h3
  subst h3
  exact⟨rfl,h2⟩
theorem dD{lo:Int}{n:Nat}:(bu lo n).length=n:=by simp [bu]
theorem cV{fs:FA}{e e1:En}{n:Int}(h:fs e=some ([.d (.int n)],e1))(h1: -1000000≤n)(h2:n≤1000000):c_ fs e=some (bu 0 n.toNat,[],e1):=by
  unfold c_;rw [h]
  have:AC n=true:=by unfold AC;rw [decide_eq_true h1,decide_eq_true h2];rfl
  simp [bA,this]
theorem dH{ft:FT}{f:FS}(P:En→Prop)(μ:En→Nat)(hs:∀e,P e→(∃e1,ft e=some (false,e1)∧True)∨∃e1 e2,ft e=some (true,e1)∧f e1=some (.nx e2)∧P e2∧μ e2 < μ e):
    ∀(n:Nat) (e:En),P e→μ e < n→∃e0 e',jl ft f n e=some (.nx e')∧P e0∧ft e0=some (false,e'):=by
  intro n
  induction n with
  | zero=>intro e _ h;lia
  | succ n ih=>
    intro e hp hm
    rcases hs e hp with ⟨e1,h1,_⟩ | ⟨e1,e2,h1,h2,h3,h4⟩
    · exact⟨e,e1,by unfold jl;rw [h1];rfl,hp,h1⟩
    · obtain⟨e0,e',g1,g2⟩:=ih e2 h3 ↥0
      exact⟨e0,e',by unfold jl;rw [h1];simp only [Option.bind_some,if_true,h2];exact g1,g2⟩
theorem ce{cs:En}{ft:FT}{fe:FE}{b:PyData→Bool}{y:PyData→PyData}:∀(items:List PyData) (t:Option Sv) (acc:List PyData),(∀x∈items,ft (cs++[some (.d x)])=some (b x,cs++[some (.d x)]))→(∀x∈items,b x=true→fe (cs++[some (.d x)])=some (.d (y x),cs++[some (.d x)]))→
    acc.length+items.length≤1000000→∃t',cF (ah cs.length) ft fe items (cs++[t]) acc=some (acc++(items.filter b).map y,cs++[t'])
  | [],t,acc,_,_,_=>⟨t,by simp [cF]⟩
  | x::r,t,acc,h1,h2,hl=>by
    have hg:ah cs.length x (cs++[t])=some (cs++[some (.d x)]):=by simp [ah]
    have h1x:=h1 x ↥1
    unfold cF
    rw [hg]
    simp only [Option.bind_some,h1x]
    cases hb:b x with
    | true=>
      simp only [if_true,h2 x ↥1 hb,Option.bind_some,kW]
      rw [if_pos (by simp at hl;lia)]
      obtain⟨t',ih⟩:=ce (b:=b) (y:=y) r (some (.d x)) (acc++[y x]) (fun z hz=>h1 z (by simp [hz])) (fun z hz=>h2 z (by simp [hz])) (by simp at hl ⊢;lia)
      exact⟨t',by rw [ih];simp [hb]⟩
    | false=>
      simp only [Bool.false_eq_true,if_false]
      obtain⟨t',ih⟩:=ce (b:=b) (y:=y) r (some (.d x)) acc (fun z hz=>h1 z (by simp [hz])) (fun z hz=>h2 z (by simp [hz])) (by simp at hl;lia)
      exact⟨t',by rw [ih];simp [hb]⟩
theorem lc{cp:List (Nat × Str)}{nT:Nat}{fi:FI}{g:FG}{ft:FT}{fe:FE}{e e1 eo:En}{items out:List PyData}(h1:fi e=some (items,[],e1))(h3:cF g ft fe items (mC cp nT e1) []=some (out,eo))(h4:(cp.all fun p=> !vf e1[p.1]?)=true):bG cp nT fi g ft fe e=some (.l out,e1):=by
  unfold bG
  rw [h1]
  simp only [Option.bind_some,List.all_nil,if_true,h3]
  have hb:gD cp eo e1=true:=by
    unfold gD
    rw [List.all_eq_true] at h4 ⊢
    intro p hp
    rw [h4 p hp];rfl
  rw [if_pos hb]
  congr 2
  refine List.ext_getElem? fun i=>?_
  rw [bF]
  match hi:e1[i]? with
  | none=>rfl
  | some none=>rfl
  | some (some (.d x))=>rfl
  | some (some (.n x))=>rfl
  | some (some (.l x))=>
    cases hp:lV cp i with
    | none=>simp [hp]
    | some k=>
      obtain⟨s,hs⟩:=dP hp
      have:=List.all_eq_true.mp h4 _ (LK hs)
      simp [hi,vf] at this
theorem mz{fa:FE}{e e1:En}{xs:List PyData}(h:fa e=some (.d (.tuple xs),e1)):fW fa e=some (xs,[],e1):=by
  unfold fW;rw [h];rfl
theorem Bx{fa:FE}{e e1:En}{xs:List PyData}(h:fa e=some (.d (.list xs),e1)):fW fa e=some (xs,[],e1):=by
  unfold fW;rw [h];rfl
theorem ve{fa:FE}{e e1:En}{xs:List PyData}(h:fa e=some (.l xs,e1)):fW fa e=some (xs,[],e1):=by
  unfold fW;rw [h];rfl
theorem j1{cp:List (Nat × Str)}{nT:Nat}{fi:FI}{g:FG}{ft:FT}{fe:FE}{e e1 cs:En}{t t':En}{items out:List PyData}(h1:fi e=some (items,[],e1))(hc:mC cp nT e1=cs++t)(hl:cs.length=cp.length)(h3:cF g ft fe items (mC cp nT e1) []=some (out,cs++t')):bG cp nT fi g ft fe e=some (.l out,e1):=by
  have key:∀i x,e1[i]?=some (some (.l x))→∀k,lV cp i=some k→(cs++t')[k]?=some (some (.l x)):=by
    intro i x hi k hk
    obtain⟨s,hs⟩:=dP hk
    have hk2:k < cp.length:=(LG hs).1
    have:(mC cp nT e1)[k]?=some (some (.l x)):=by
      unfold mC
      rw [List.getElem?_append_left (by simpa using hk2),List.getElem?_map,hs]
      simp [hi,FW]
    rw [hc,List.getElem?_append_left ↥0] at this
    rw [List.getElem?_append_left ↥0]
    exact this
  unfold bG
  rw [h1]
  simp only [Option.bind_some,List.all_nil,if_true,h3]
  have hb:gD cp (cs++t') e1=true:=by
    unfold gD
    rw [List.all_eq_true]
    intro p hp
    match hi:e1[p.1]? with
    | none=>simp [vf]
    | some none=>simp [vf]
    | some (some (.d x))=>simp [vf]
    | some (some (.n x))=>simp [vf]
    | some (some (.l x))=>
      cases hq:lV cp p.1 with
      | none=>
        unfold lV at hq
        rw [List.findIdx?_eq_none_iff] at hq
        have:=hq p hp
        simp at this
      | some k=>simp [key p.1 x hi k hq,vf]
  rw [if_pos hb]
  congr 2
  refine List.ext_getElem? fun i=>?_
  rw [bF]
  match hi:e1[i]? with
  | none=>rfl
  | some none=>rfl
  | some (some (.d x))=>rfl
  | some (some (.n x))=>rfl
  | some (some (.l x))=>
    cases hp:lV cp i with
    | none=>simp [hp]
    | some k=>simp [hp,key i x hi k hp]
theorem kO{α:Type}{xs:List α}{i:Int}(h0:0≤i)(h1:i < xs.length):∃x∈xs,atI xs i=some x:=by
  rw [gC h0 h1]
  exact⟨xs[i.toNat]'↥0,List.getElem_mem _,List.getElem?_eq_getElem _⟩
theorem nu{e:En}{xs:List PyData}{i:Int}:bD e (.l xs) (.d (.int i))=(atI xs i).map .d:=rfl
theorem fm{e:En}{xs:List PyData}{i:Int}:bD e (.d (.tuple xs)) (.d (.int i))=(atI xs i).map .d:=rfl
theorem jG{e:En}{xs:List PyData}{i:Int}:bD e (.d (.list xs)) (.d (.int i))=(atI xs i).map .d:=rfl
theorem nA{e:En}{j:Nat}{xs:List PyData}{i:Int}(h:e[j]?=some (some (.l xs))):bD e (.s j) (.d (.int i))=(atI xs i).map .d:=by
  simp [bD,fN,h,bA]
theorem jJ{e:En}{xs:List PyData}:g1 fU e [.d (.tuple xs)]=some (.d (.int xs.length)):=rfl
theorem il{e:En}{xs:List PyData}:g1 fU e [.d (.list xs)]=some (.d (.int xs.length)):=rfl
theorem jH{e:En}{xs:List PyData}:g1 fU e [.l xs]=some (.d (.int xs.length)):=rfl
theorem jI{e:En}{j:Nat}{xs:List PyData}(h:e[j]?=some (some (.l xs))):g1 fU e [.s j]=some (.d (.int xs.length)):=by
  simp [g1,fU,fN,h]
theorem fD{e:En}{j:Nat}{xs:List PyData}(h:e[j]?=some (some (.l xs))):g1 cf e [.s j]=some (.d (.tuple xs)):=by
  simp [g1,cf,fN,h]
theorem fB{e:En}{xs:List PyData}:g1 cf e [.l xs]=some (.d (.tuple xs)):=rfl
theorem dO{e:En}{xs:List PyData}:g1 cf e [.d (.list xs)]=some (.d (.tuple xs)):=rfl
theorem fF{e:En}{xs:List PyData}:g1 cf e [.d (.tuple xs)]=some (.d (.tuple xs)):=rfl
theorem jp{e:En}{xs:List PyData}{lo hi:Option Int}:G1 e (.d (.tuple xs)) lo hi=some (.d (.tuple (cutD xs lo hi))):=rfl
theorem mv{e:En}{xs ys:List PyData}(h:xs.length+ys.length≤1000000):bL e (.d (.tuple xs)) (.d (.tuple ys))=some (.d (.tuple (xs++ys))):=by
  simp [bL,ze,y_,gI,bA,tM,fN,h]
theorem zc{e:En}{i j:Int}(h:j≠0):ba e (.d (.int i)) (.d (.int j))=some (.d (.int (i.fmod j))):=by
  unfold ba;rw [kX (by simpa using h)]
theorem wF{e:En}{i j:Int}(h:j≠0)(h2:Bt 8000 j):eh e (.d (.int i)) (.d (.int j))=some (.d (.int (i.fdiv j))):=by
  unfold eh;rw [kX (by simp [i6.mpr h2,h])]
theorem lL{e:En}{i j:Int}(h:yc i j=true):vc e (.d (.int i)) (.d (.int j))=some (.d (.int (i ^ j.toNat))):=by
  unfold vc;rw [kX h]
theorem lW:yc 10 18=true:=by decide
theorem ki{f g:FS}{e e1:En}(h:f e=some (.nx e1)):aG f g e=g e1:=by unfold aG;rw [h];rfl
theorem Gx{ft:FT}{f g:FS}{e e1:En}(h:ft e=some (true,e1)):kg ft f g e=f e1:=by unfold kg;rw [h];rfl
theorem Gw{ft:FT}{f g:FS}{e e1:En}(h:ft e=some (false,e1)):kg ft f g e=g e1:=by unfold kg;rw [h];rfl
def eI(i:Nat)(e:En):Nat:=match e[i]? with
  | some (some (.l xs))=>xs.length
  | _=>0
def qR(i:Nat)(e:En):Nat:=match e[i]? with
  | some (some (.d (.int k)))=>k.natAbs
  | _=>0
theorem je{n m:Nat}(h:n < 2 ^ m)(hm:m≤4200):n < 2 ^ 4200:=Nat.lt_of_lt_of_le h (Nat.pow_le_pow_right ⋯ hm)
theorem i4{α:Type}{a:α}{r:List α}:atI (a::r) 0=some a:=by
  rw [gC ⋯ ↥1];rfl
theorem dg{α:Type}{a b:α}{r:List α}:atI (a::b::r) 1=some b:=by
  rw [gC ⋯ ↥7];rfl
theorem jx{α:Type}{a b c:α}{r:List α}:atI (a::b::c::r) 2=some c:=by
  rw [gC ⋯ ↥7];rfl
theorem jy{α:Type}{a b c d:α}{r:List α}:atI (a::b::c::d::r) 3=some d:=by
  rw [gC ⋯ ↥7];rfl
theorem jz{W:aZ}{k:Int}(h:lh W k):atI (W.ties.map be) k=some (be (W.tie k)):=by
  rw [gC h.1 (by rw [List.length_map];exact h.2),List.getElem?_map,h.get];rfl
theorem yM{ns:List Int}{k:Int}(h0:0≤k)(h1:k < (ns.length:Int)):atI (ns.map PyData.int) k=some (.int (ns.getD k.toNat 0)):=by
  rw [gC h0 (by rw [List.length_map];exact h1),List.getElem?_map]
  have:k.toNat < ns.length:=by lia
  simp [this]
theorem m5{a b c d:PyData}:cutD [a,b,c,d] none (some 2)=[a,b]:=rfl
theorem dM{a b c d:PyData}:cutD [a,b,c,d] (some 2) none=[c,d]:=rfl
theorem dJ{a b c:PyData}:cutD [a,b,c] (some 1) none=[b,c]:=rfl
theorem tF(ns:List Int):PyData.canLayAll0 (ns.map PyData.int)=true:=by
  induction ns with
  | nil=>rfl
  | cons n r ih=>simp [PyData.canLayAll0,PyData.canLay0,ih]
theorem s_{x:Int}:∀(ns:List Int),((ns.map PyData.int).any fun y=>PyData.eqv y (.int x))=ns.contains x
  | []=>rfl
  | n::r=>by
    rw [List.map_cons,List.any_cons,s_ r,List.contains_cons]
    show(n==x || _)=_
    rw [show(n==x)=(x==n) by rw [Bool.eq_iff_iff];simp;exact eq_comm]
theorem ej{e:En}{x:Int}{ns:List Int}{neg:Bool}:Br neg e (.d (.int x)) (.d (.tuple (ns.map .int)))=some (.d (.bool (if neg then !ns.contains x else ns.contains x))):=by
  unfold Br
  simp only [lG,fN,Option.bind_some,tF,s_]
  simp [PyData.canLay0,PyData.depth]
theorem ii{e:En}{x a b:Int}{neg:Bool}:Br neg e (.d (.int x)) (.d (.tuple [.int a,.int b]))=some (.d (.bool (if neg then !(a==x || b==x) else(a==x || b==x)))):=by
  have h:=ej (e:=e) (x:=x) (ns:=[a,b]) (neg:=neg)
  simp only [List.map_cons,List.map_nil] at h
  rw [h]
  have:[a,b].contains x=(a==x || b==x):=by
    simp only [List.contains_cons,List.contains_nil,Bool.or_false]
    rw [show(x==a)=(a==x) by rw [Bool.eq_iff_iff];simp;exact eq_comm,show(x==b)=(b==x) by rw [Bool.eq_iff_iff];simp;exact eq_comm]
  rw [this]
theorem oM{e:En}{ns:List Int}(h:ns.length < 64):g1 i_ e [.d (.tuple (ns.map .int))]=some (.l ((jY ns).map .int)):=by
  simp [g1,i_,fN,mD,h]
def vA(p:Int→Bool):PyData→Bool
  | .int k=>p k
  | _=>false
theorem yg{W:aZ}{asked taken:List Int}:((bu 0 W.ties.length).filter (vA fun k=>W.may asked taken k))=(W.can asked taken).map .int:=by
  unfold bu aZ.can aZ.rng
  rw [List.filter_map,List.filter_map,List.map_map]
  have:(List.range W.ties.length).filter ((vA fun k=>W.may asked taken k) ∘ fun(i:Nat)=>PyData.int (0+(i:Int)))=(List.range W.ties.length).filter ((fun k=>W.may asked taken k) ∘ Int.ofNat):=by
    congr 1
    funext i
    simp [vA]
  rw [this]
  refine List.map_congr_left fun i _=>?_
  simp
theorem cG(W:aZ):aI W=.tuple [.int W.things,.tuple (W.ties.map be),.tuple (W.pat.map .int),.int W.asks]:=rfl
def Sh(n:Nat)(d:PyData):Prop:=d.canLay0=true∧d.depth≤n
theorem Sh.mono{n m:Nat}{d:PyData}(h:Sh n d)(l:n≤m):Sh m d:=⟨h.1,Nat.le_trans h.2 l⟩
theorem Sh.ok{n:Nat}{d:PyData}(h:Sh n d)(l:n≤64):SeqAt.shaped d=true:=by
  unfold SeqAt.shaped;rw [h.1,decide_eq_true (Nat.le_trans h.2 l)];rfl
theorem Sh.int{k:Int}:Sh 2 (.int k):=⟨by simp [PyData.canLay0],by simp [PyData.depth]⟩
theorem Sh.all{n:Nat}:∀{ds:List PyData},(∀d∈ds,Sh n d)→PyData.canLayAll0 ds=true∧PyData.depthAll ds≤n
  | [],_=>⟨rfl,by simp [PyData.depthAll]⟩
  | d::r,h=>by
    obtain⟨a1,a2⟩:=h d ↥1
    obtain⟨b1,b2⟩:=Sh.all (ds:=r) fun x hx=>h x (by simp [hx])
    exact⟨by simp [PyData.canLayAll0,a1,b1],by simp only [PyData.depthAll];lia⟩
theorem Sh.tup{n:Nat}{ds:List PyData}(h:∀d∈ds,Sh n d):Sh (n+2) (.tuple ds):=by
  obtain⟨b1,b2⟩:=Sh.all h
  exact⟨by simp [PyData.canLay0,b1],by simp only [PyData.depth];lia⟩
theorem Sh.list{n:Nat}{ds:List PyData}(h:∀d∈ds,Sh n d):Sh (n+2) (.list ds):=by
  obtain⟨b1,b2⟩:=Sh.all h
  exact⟨by simp [PyData.canLay0,b1],by simp only [PyData.depth];lia⟩
theorem Sh.ints{ns:List Int}:Sh 4 (.tuple (ns.map .int)):=Sh.tup (n:=2) fun d hd=>by
  obtain⟨k,_,rfl⟩:=LI hd
  exact Sh.int
theorem Sh.st{a b:List Int}:Sh 6 (m6 a b):=Sh.tup (n:=4) fun d hd=>by
  simp only [List.mem_cons,List.not_mem_nil,or_false] at hd
  rcases hd with rfl | rfl<;>exact Sh.ints
theorem tZ:∀(n:Nat) (l:List Int),l.Nodup→(∀k∈l,0≤k∧k < (n:Int))→l.length≤n
  | 0,l,_,h=>by
    cases l with
    | nil=>simp
    | cons a r=>have:=h a ↥1;lia
  | n+1,l,hd,h=>by
    have ih:=tZ n (l.erase (n:Int)) (hd.erase _) fun k hk=>by
      obtain⟨h1,h2⟩:=hd.mem_erase_iff.mp hk
      have:=h k h2
      lia
    by_cases c:(n:Int)∈l
    · rw [List.length_erase_of_mem c] at ih;lia
    · rw [List.erase_of_not_mem c] at ih;lia
abbrev Std:=List Int × List Int
structure oz (W:aZ) (s:Std):Prop where
  inw:∀k∈s.1,lh W k
  nd:s.1.Nodup
  tk:s.2.length≤2*s.1.length
  th:∀t∈s.2,0≤t∧t < W.things
def nxt(W:aZ)(s:Std)(k:Int)(b:Bool):Std:=(aZ.askd s.1 k,W.took s.2 k b)
theorem oz.len{W:aZ}{s:Std}(h:oz W s):s.1.length≤W.ties.length:=tZ _ _ h.nd fun k hk=>h.inw k hk
theorem oz.first(W:aZ):oz W ([],[]):=⟨fun k h=>(by cases h),List.nodup_nil,Nat.le_refl _,fun k h=>(by cases h)⟩
theorem lr{a:List Int}{k:Int}:(aZ.askd a k).length=a.length+1:=by unfold aZ.askd;rw [q_];simp
theorem oz.nxt{W:aZ}{s:Std}{k:Int}(b:Bool)(ok:W.Ok)(h:oz W s)(hk:lh W k)(hn:k∉s.1):oz W (nxt W s k b):=by
  refine⟨fun j hj=>?_,?_,?_,?_⟩
  · have:=rf.mp hj
    rcases LH this with z | z
    · exact h.inw j z
    · simp at z;rw [z];exact hk
  · refine(k' _).nodup_iff.mpr ?_
    rw [List.nodup_append]
    refine⟨h.nd,by simp,fun a ha b hb=>?_⟩
    simp at hb
    rintro rfl
    exact hn (hb ▸ ha)
  · have:=h.tk
    show(W.took s.2 k b).length≤2*(aZ.askd s.1 k).length
    rw [lr]
    unfold aZ.took
    split
    · rw [q_];simp;lia
    · lia
  · intro t ht
    have o:=hk.ok ok
    have:=o.o0;have:=o.o1;have:=o.o2
    change t∈W.took s.2 k b at ht
    unfold aZ.took at ht
    split at ht
    · rcases LH (rf.mp ht) with z | z
      · exact h.th t z
      · simp at z
        rcases z with rfl | rfl<;>lia
    · exact h.th t ht
theorem wQ{W:aZ}{a t:List Int}{k:Int}(h:W.may a t k=true):k∉a:=by
  unfold aZ.may at h
  intro c
  have:a.contains k=true:=by simpa using c
  simp [c] at h
structure Nd where
  tie:Int
  yes:Int
  no:Int
def h_(x:Nd):PyData:=.tuple [.int x.tie,.int x.yes,.int x.no]
def xU(x:Nd):List PyData:=[.int x.tie,.int x.yes,.int x.no]
def mq(W:aZ)(n:Nat)(S:Nat→Std)(i:Nat)(k:Int)(b:Bool)(l:Int):Prop:=l= -1∨(0≤l∧l < (n:Int)∧S l.toNat=nxt W (S i) k b)
structure uS (W:aZ) (n:Nat) (S:Nat→Std) (i:Nat) (x:Nd):Prop where
  tie:lh W x.tie
  st:oz W (S i)
  may:W.may (S i).1 (S i).2 x.tie=true
  yes:mq W n S i x.tie true x.yes
  no:mq W n S i x.tie false x.no
def iy(W:aZ)(T:List Nd)(S:Nat→Std):Prop:=∀(i:Nat) (x:Nd),T[i]?=some x→uS W T.length S i x
structure Wt where
  st:Std
  par:Int
  side:Int
def yD(w:Wt):PyData:=.tuple [m6 w.st.1 w.st.2,.int w.par,.int w.side]
theorem Sh.wt{w:Wt}:Sh 8 (yD w):=Sh.tup (n:=6) fun d hd=>by
  simp only [List.mem_cons,List.not_mem_nil,or_false] at hd
  rcases hd with rfl | rfl | rfl
  · exact Sh.st
  · exact Sh.int.mono ⋯
  · exact Sh.int.mono ⋯
def Dv(S:Nat→Std)(n:Nat)(s:Std):Nat→Std:=fun i=>if i=n then s else S i
structure rC (W:aZ) (T:List Nd) (S:Nat→Std) (ws:List Wt):Prop where
  tr:iy W T S
  wt:∀w∈ws,oz W w.st∧(w.par= -1∨∃(p:Nat) (x:Nd),w.par=(p:Int)∧T[p]?=some x∧((w.side=0∧w.st=L2.nxt W (S p) x.tie true)∨(w.side=1∧w.st=L2.nxt W (S p) x.tie false)))
  side:∀w∈ws,w.side=0∨w.side=1
theorem mq.up{W:aZ}{n:Nat}{S:Nat→Std}{i:Nat}{k:Int}{b:Bool}{l:Int}{s:Std}(h:mq W n S i k b l)(hi:i < n):mq W (n+1) (Dv S n s) i k b l:=by
  rcases h with h | ⟨h1,h2,h3⟩
  · exact .inl h
  · refine .inr ⟨h1,by lia,?_⟩
    unfold Dv
    rw [if_neg ↥0,if_neg ↥0]
    exact h3
def nR(x:Nd)(side n:Int):Nd:=if side=0 then{x with yes:=n} else{x with no:=n}
theorem zz{x:Nd}{s n:Int}:(nR x s n).tie=x.tie:=by unfold nR;split<;>rfl
theorem rC.more{W:aZ}{T:List Nd}{S:Nat→Std}{w:Wt}{ws:List Wt}{k:Int}(ok:W.Ok)(h:rC W T S (w::ws))(hk:lh W k)(hm:W.may w.st.1 w.st.2 k=true):
    rC W ((if 0≤w.par then T.modify w.par.toNat (fun x=>nR x w.side T.length) else T)++[⟨k, -1, -1⟩]) (Dv S T.length w.st) (ws++[⟨L2.nxt W w.st k true,T.length,0⟩,⟨L2.nxt W w.st k false,T.length,1⟩]):=by
  obtain⟨ws1,ws2⟩:=h.wt w ↥1
  generalize hT:(if 0≤w.par then T.modify w.par.toNat (fun x=>nR x w.side T.length) else T)=T'
  have len:T'.length=T.length:=by rw [←hT];split<;>simp
  have old:∀(i:Nat) (y:Nd),T'[i]?=some y→i < T.length∧∃x,T[i]?=some x∧y.tie=x.tie:=by
    intro i y hy
    have hi:i < T.length:=by rw [←len];exact(LG hy).1
    refine⟨hi,?_⟩
    rw [←hT] at hy
    split at hy
    · rw [List.getElem?_modify] at hy
      obtain⟨x,hx,e⟩:=LF hy
      refine⟨x,hx,?_⟩
      rw [←e]
      split
      · exact zz
      · rfl
    · exact⟨y,hy,rfl⟩
  have keep:∀(i:Nat) (x:Nd),T[i]?=some x→∃y,T'[i]?=some y∧y.tie=x.tie:=by
    intro i x hx
    have hi:i < T'.length:=by rw [len];exact(LG hx).1
    obtain⟨_,x',hx',e⟩:=old i _ (List.getElem?_eq_getElem hi)
    rw [hx] at hx'
    cases hx'
    exact⟨_,List.getElem?_eq_getElem hi,e⟩
  have up:∀i,i < T.length→Dv S T.length w.st i=S i:=fun i hi=>by unfold Dv;rw [if_neg ↥0]
  have upn:Dv S T.length w.st T.length=w.st:=by unfold Dv;rw [if_pos rfl]
  refine⟨fun i y hy=>?_,fun v hv=>?_,fun v hv=>?_⟩
  · rw [List.length_append,len]
    show uS W (T.length+1) _ i y
    by_cases c:i < T.length
    · rw [List.getElem?_append_left ↥0] at hy
      have hy0:=hy
      rw [←hT] at hy
      split at hy
      case isFalse=>
        have o:=h.tr i y hy
        exact⟨o.tie,by rw [up i c];exact o.st,by rw [up i c];exact o.may,o.yes.up c,o.no.up c⟩
      case isTrue hp=>
        rw [List.getElem?_modify] at hy
        obtain⟨x,hx,e⟩:=LF hy
        have o:=h.tr i x hx
        split at e
        case isFalse=>
          subst e
          exact⟨o.tie,by rw [up i c];exact o.st,by rw [up i c];exact o.may,o.yes.up c,o.no.up c⟩
        case isTrue hi=>
          rcases ws2 with z | ⟨p,x2,z1,z2,z3⟩
          · lia
          · have:i=p:=by lia
            subst this
            rw [hx] at z2
            cases z2
            have new:∀b,w.st=L2.nxt W (S i) x.tie b→mq W (T.length+1) (Dv S T.length w.st) i x.tie b (T.length:Int):=fun b hb=>.inr ⟨by lia,by lia,by
              rw [show((T.length:Int)).toNat=T.length by lia,upn,up i c];exact hb⟩
            rw [←e]
            rcases z3 with ⟨s0,s1⟩ | ⟨s0,s1⟩
            · have:nR x w.side T.length={x with yes:=T.length}:=by unfold nR;rw [if_pos s0]
              rw [this]
              exact⟨o.tie,by rw [up i c];exact o.st,by rw [up i c];exact o.may,new true s1,o.no.up c⟩
            · have:nR x w.side T.length={x with no:=T.length}:=by unfold nR;rw [if_neg ↥0]
              rw [this]
              exact⟨o.tie,by rw [up i c];exact o.st,by rw [up i c];exact o.may,o.yes.up c,new false s1⟩
    · rw [List.getElem?_append_right ↥0] at hy
      have:i=T.length:=by
        have:=(LG hy).1
        simp at this;lia
      subst this
      rw [len] at hy
      simp at hy
      subst hy
      exact⟨hk,by rw [upn];exact ws1,by rw [upn];exact hm,.inl rfl,.inl rfl⟩
  · rcases LH hv with hv | hv
    · obtain⟨v1,v2⟩:=h.wt v (by simp [hv])
      refine⟨v1,?_⟩
      rcases v2 with z | ⟨p,x,z1,z2,z3⟩
      · exact .inl z
      · obtain⟨y,hy,e⟩:=keep p x z2
        have hp:p < T.length:=(LG z2).1
        refine .inr ⟨p,y,z1,by rw [List.getElem?_append_left ↥0];exact hy,?_⟩
        rw [up p hp,e]
        exact z3
    · have key:∀b,oz W (L2.nxt W w.st k b):=fun b=>ws1.nxt b ok hk (wQ hm)
      have at':(T'++[(⟨k, -1, -1⟩:Nd)])[T.length]?=some ⟨k, -1, -1⟩:=by rw [List.getElem?_append_right ↥0,len];simp
      simp only [List.mem_cons,List.not_mem_nil,or_false] at hv
      rcases hv with rfl | rfl
      · exact⟨key true,.inr ⟨T.length,_,rfl,at',.inl ⟨rfl,by rw [upn]⟩⟩⟩
      · exact⟨key false,.inr ⟨T.length,_,rfl,at',.inr ⟨rfl,by rw [upn]⟩⟩⟩
  · rcases LH hv with hv | hv
    · exact h.side v (by simp [hv])
    · simp only [List.mem_cons,List.not_mem_nil,or_false] at hv
      rcases hv with rfl | rfl
      · exact .inl rfl
      · exact .inr rfl
theorem rC.less{W:aZ}{T:List Nd}{S:Nat→Std}{w:Wt}{ws:List Wt}(h:rC W T S (w::ws)):rC W T S ws:=⟨h.tr,fun v hv=>h.wt v (by simp [hv]),fun v hv=>h.side v (by simp [hv])⟩
theorem yi{T:List Nd}{p:Nat}{x:Nd}{n:Int}(h:T[p]?=some x):(T.map xU).set p [.int x.tie,.int n,.int x.no]=(T.modify p (fun x=>nR x 0 n)).map xU:=by
  refine List.ext_getElem? fun i=>?_
  rw [List.getElem?_set,List.getElem?_map,List.getElem?_map,List.getElem?_modify]
  by_cases c:p=i
  · subst c
    obtain⟨hp,e⟩:=LG h
    simp [h,hp,nR,xU,e]
  · simp [c]
theorem yj{T:List Nd}{p:Nat}{x:Nd}{n:Int}(h:T[p]?=some x):(T.map xU).set p [.int x.tie,.int x.yes,.int n]=(T.modify p (fun x=>nR x 1 n)).map xU:=by
  refine List.ext_getElem? fun i=>?_
  rw [List.getElem?_set,List.getElem?_map,List.getElem?_map,List.getElem?_modify]
  by_cases c:p=i
  · subst c
    obtain⟨hp,e⟩:=LG h
    simp [h,hp,nR,xU,e]
  · simp [c]
theorem Bh{W:aZ}{a t:List Int}{k:Int}(h:k∈W.can a t):lh W k∧W.may a t k=true:=by
  unfold aZ.can at h
  rw [List.mem_filter] at h
  exact⟨Bz.mp h.1,h.2⟩
theorem yu{cp:List (Nat × Str)}{nT:Nat}{fi:FI}{g:FG}{ft:FT}{fe:FE}{e e1 cs:En}{t t':En}{items out:List PyData}{own:hZ}(h1:fi e=some (items,own,e1))(ho:(own.all fun q=> !(cp.any fun c=>c.1==q.1))=true)(hc:mC cp nT e1=cs++t)(hl:cs.length=cp.length)(h3:cF g ft fe items (mC cp nT e1) []=some (out,cs++t')):bG cp nT fi g ft fe e=some (.l out,e1):=by
  have key:=j1 (cp:=cp) (nT:=nT) (fi:=fun _=>some (items,[],e1)) (g:=g) (ft:=ft) (fe:=fe) (e:=e) rfl hc hl h3
  unfold bG at key ⊢
  rw [h1]
  simp only [Option.bind_some,List.all_nil,if_true] at key
  simp only [Option.bind_some,ho,if_true]
  exact key
theorem AH{W:List Nat}{fi:FI}{g:FG}{f:FS}{e e1:En}{items:List PyData}{own:hZ}(h:fi e=some (items,own,e1))(ho:(own.all fun q=> !W.contains q.1)=true):cN W fi g f e=iz own g f items e1:=by
  unfold cN;rw [h];simp only [Option.bind_some,ho,if_true]
theorem qG{α:Type}(x:α):∀n,(List.replicate n [x]).flatten=List.replicate n x
  | 0=>rfl
  | n+1=>by rw [List.replicate_succ,List.flatten_cons,qG x n];rfl
theorem FK{e:En}{x:PyData}{n:Int}(h0:0≤n)(h1:n≤100000):bQ e (.l [x]) (.d (.int n))=some (.l (List.replicate n.toNat x)):=by
  have a:tO e (.l [x]) (.d (.int n))=some (.l (List.replicate n.toNat [x]).flatten):=by
    simp [tO,vo,bA]
    lia
  have b:oI e (.l [x]) (.d (.int n))=none:=by simp [oI,gI,bA]
  have c:oK e (.l [x]) (.d (.int n))=none:=by simp [oK,fN,bA]
  unfold bQ ze
  rw [b,c,a,qG]
  rfl
theorem xE{α:Type}{xs:List α}{x:α}:atI (xs++[x]) (-1)=some x:=by
  unfold atI r6
  rw [if_neg ⋯,if_pos ↥7]
  simp
  rw [show(-1+((xs.length:Int)+1)).toNat=xs.length by lia]
  simp
theorem FF{n:Nat}:cutD [.int 0] none (some (n:Int))=(if n=0 then [] else [.int 0]):=by
  unfold cutD
  rw [HT.sIx_none,HT.sIx_nat]
  cases n with
  | zero=>simp
  | succ n=>simp
def nm(nums:List Int)(l:Int):Int:=(atI nums l).getD (-1)
theorem Bg{α β:Type}{f:α→β}{xs:List α}{i:Int}:atI (xs.map f) i=(atI xs i).map f:=by
  unfold atI
  rw [List.length_map]
  cases r6 xs.length i with
  | none=>rfl
  | some j=>simp
theorem yN{α:Type}{xs:List α}{i:Int}(h0: -(xs.length:Int)≤i)(h1:i < xs.length):∃x,atI xs i=some x:=by
  unfold atI r6
  split
  · simp only [if_pos h1,Option.bind_some]
    exact⟨_,List.getElem?_eq_getElem ↥0⟩
  · simp only [if_pos h0,Option.bind_some]
    exact⟨_,List.getElem?_eq_getElem ↥0⟩
theorem De{nums:List Int}{l:Int}(h0: -(nums.length:Int)≤l)(h1:l < nums.length):atI (nums.map PyData.int) l=some (.int (nm nums l)):=by
  obtain⟨x,hx⟩:=yN h0 h1
  unfold nm
  rw [Bg,hx];rfl
structure lm (order:List Int) (n:Nat) (nums:List Int):Prop where
  len:nums.length=n+1
  top:nums[n]?=some (-1)
  at':∀(j:Nat) (v:Int),j < n→nums[j]?=some v→v= -1∨∃p:Nat,v=(p:Int)∧order[p]?=some (j:Int)
theorem lm.first{order:List Int}{n:Nat}:lm order n (List.replicate (n+1) (-1)):=⟨by simp,by simp [List.getElem?_replicate],fun j v hj h=>by
  rw [List.getElem?_replicate] at h
  split at h
  · cases h;exact .inl rfl
  · cases h⟩
theorem lm.set{order:List Int}{n:Nat}{nums:List Int}(h:lm order n nums){i:Nat}{w:Int}(hw:order[i]?=some w)(w0:0≤w)(w1:w < (n:Int)):lm order n (nums.set w.toNat (i:Int)):=by
  refine⟨by rw [List.length_set];exact h.len,by rw [List.getElem?_set_ne ↥0];exact h.top,fun j v hj hv=>?_⟩
  rw [List.getElem?_set] at hv
  split at hv
  case isTrue c=>
    rw [if_pos (by rw [h.len];lia)] at hv
    cases hv
    exact .inr ⟨i,rfl,by rw [hw];congr 1;lia⟩
  case isFalse c=>exact h.at' j v hj hv
def bO(T:List Nd)(w:Int):Nd:=T.getD w.toNat ⟨0,0,0⟩
theorem iT{T:List Nd}{w:Int}(h0:0≤w)(h1:w < (T.length:Int)):T[w.toNat]?=some (bO T w):=by
  have:w.toNat < T.length:=by lia
  simp [bO,this]
theorem rK{T:List Nd}{w:Int}(h0:0≤w)(h1:w < (T.length:Int)):atI (T.map h_) w=some (h_ (bO T w)):=by
  rw [gC h0 (by rw [List.length_map];exact h1),List.getElem?_map,iT h0 h1];rfl
def renum(T:List Nd)(nums:List Int)(w:Int):Nd:=⟨(bO T w).tie,nm nums (bO T w).yes,nm nums (bO T w).no⟩
theorem mq.rng{W:aZ}{n:Nat}{S:Nat→Std}{i:Nat}{k:Int}{b:Bool}{l:Int}(h:mq W n S i k b l): -1≤l∧l < (n:Int):=by
  rcases h with h | h<;>lia
theorem mq.renum{W:aZ}{n:Nat}{S:Nat→Std}{order nums:List Int}{i j:Nat}{w:Int}{k:Int}{b:Bool}{l:Int}(hn:lm order n nums)(hj:order[j]?=some w)(hi:w.toNat=i)(h:mq W n S i k b l):mq W order.length (fun j=>S (order.getD j 0).toNat) j k b (nm nums l):=by
  have hj2:(fun j=>S (order.getD j 0).toNat) j=S i:=by
    simp only [List.getD_eq_getElem?_getD,hj,Option.getD_some,hi]
  rcases h with h | ⟨h1,h2,h3⟩
  · left
    subst h
    unfold nm atI r6
    rw [if_neg ⋯,if_pos (by rw [hn.len];lia)]
    simp only [Option.bind_some]
    rw [show(-1+(nums.length:Int)).toNat=n by rw [hn.len];lia,hn.top]
    rfl
  · have hl:l.toNat < n:=by lia
    have e:nm nums l=nums.getD l.toNat (-1):=by
      unfold nm
      rw [gC h1 (by rw [hn.len];lia)]
      simp
    have hx:nums[l.toNat]?=some (nums.getD l.toNat (-1)):=by
      have:l.toNat < nums.length:=by rw [hn.len];lia
      simp [this]
    rcases hn.at' l.toNat _ hl hx with z | ⟨p,z1,z2⟩
    · left;rw [e];exact z
    · right
      rw [e,z1]
      have hp:p < order.length:=(LG z2).1
      refine⟨by lia,by lia,?_⟩
      rw [hj2]
      have:(fun j=>S (order.getD j 0).toNat) ((p:Int)).toNat=S l.toNat:=by
        simp only [Int.toNat_natCast,List.getD_eq_getElem?_getD,z2,Option.getD_some]
      rw [this]
      exact h3
theorem iy.renum{W:aZ}{T:List Nd}{S:Nat→Std}{order nums:List Int}(h:iy W T S)(ho:∀w∈order,0≤w∧w < (T.length:Int))(hn:lm order T.length nums):iy W (order.map (L2.renum T nums)) (fun j=>S (order.getD j 0).toNat):=by
  intro j y hy
  rw [List.getElem?_map] at hy
  obtain⟨w,hw,rfl⟩:=LF hy
  obtain⟨w0,w1⟩:=ho w (LK hw)
  have o:=h w.toNat _ (iT w0 w1)
  have hj2:S (order.getD j 0).toNat=S w.toNat:=by
    simp only [List.getD_eq_getElem?_getD,hw,Option.getD_some]
  rw [List.length_map]
  exact⟨o.tie,by rw [hj2];exact o.st,by rw [hj2];exact o.may,o.yes.renum hn hw rfl,o.no.renum hn hw rfl⟩
def hang(S:Nat→Std)(w:Int):Nat:=2 ^ (16 - (S w.toNat).1.length) - 1
def ek(S:Nat→Std)(ws:List Int):Nat:=(ws.map (hang S)).sum
theorem uS.room{W:aZ}{n:Nat}{S:Nat→Std}{i:Nat}{x:Nd}(ok:W.Ok)(h:uS W n S i x):(S i).1.length≤15:=by
  have h1:=(h.st.nxt true ok h.tie (wQ h.may)).len
  have h2:=ok.len
  have:(nxt W (S i) x.tie true).1.length=(S i).1.length+1:=lr
  lia
theorem mx{W:aZ}{n:Nat}{S:Nat→Std}{i:Nat}{k:Int}{b:Bool}{l:Int}(hi:(S i).1.length≤15)(h:mq W n S i k b l)(hn:l≠ -1):hang S l=2 ^ (15 - (S i).1.length) - 1:=by
  rcases h with h | ⟨h1,h2,h3⟩
  · exact absurd h hn
  · unfold hang
    rw [h3]
    have:(nxt W (S i) k b).1.length=(S i).1.length+1:=lr
    rw [this,show 16 - ((S i).1.length+1)=15 - (S i).1.length by lia]
def Dd(x:Nd):List Int:=[x.yes,x.no].filter fun l=>l != -1
theorem uS.hang{W:aZ}{n:Nat}{S:Nat→Std}{w:Int}{x:Nd}(ok:W.Ok)(h:uS W n S w.toNat x):ek S (Dd x)+1≤L2.hang S w:=by
  have r:=h.room ok
  have e:L2.hang S w=2*2 ^ (15 - (S w.toNat).1.length) - 1:=by
    unfold L2.hang
    rw [show 16 - (S w.toNat).1.length=(15 - (S w.toNat).1.length)+1 by lia,Nat.pow_succ,Nat.mul_comm]
  have p:1≤2 ^ (15 - (S w.toNat).1.length):=Nat.one_le_two_pow
  rw [e]
  unfold ek Dd
  by_cases c1:x.yes= -1
  · by_cases c2:x.no= -1
    · simp [c1,c2];lia
    · have:=mx r h.no c2
      simp [c1,c2,this];lia
  · have l1:=mx r h.yes c1
    by_cases c2:x.no= -1
    · simp [c1,c2,l1];lia
    · have:=mx r h.no c2
      simp [c1,c2,l1,this];lia
theorem D3{W:aZ}{n:Nat}{S:Nat→Std}{i:Nat}{x:Nd}(h:uS W n S i x):∀l∈Dd x,0≤l∧l < (n:Int):=by
  intro l hl
  unfold Dd at hl
  rw [List.mem_filter] at hl
  obtain⟨h1,h2⟩:=hl
  simp at h1 h2
  rcases h1 with rfl | rfl
  · have:=h.yes.rng;lia
  · have:=h.no.rng;lia
theorem qF{α β:Type}{f:α→β}:∀{xs:List α} {i:Nat},(xs.map f).eraseIdx i=(xs.eraseIdx i).map f
  | [],_=>by simp
  | x::r,0=>by simp
  | x::r,i+1=>by simp [qF (xs:=r) (i:=i)]
def Hw(f:Int→PyData):PyData→PyData
  | .int k=>f k
  | d=>d
theorem FL{e:En}{xs:List PyData}{lo hi:Option Int}:G1 e (.l xs) lo hi=some (.l (cutD xs lo hi)):=rfl
theorem qL{S:Nat→Std}:∀{ws:List Int} {j:Nat} (h:j < ws.length),ek S (ws.eraseIdx j)+hang S ws[j]=ek S ws
  | [],j,h=>by simp at h
  | w::r,0,h=>by simp [ek];lia
  | w::r,j+1,h=>by
    have:=qL (S:=S) (ws:=r) (j:=j) (by simpa using h)
    simp [ek] at this ⊢
    lia
theorem xQ{S:Nat→Std}{a b:List Int}:ek S (a++b)=ek S a+ek S b:=by
  unfold ek;rw [List.map_append,List.sum_append]
theorem qK{W:aZ}{T:List Nd}{S:Nat→Std}{ws:List Int}(ok:W.Ok)(h:iy W T S)(hw:∀w∈ws,0≤w∧w < (T.length:Int)):ws.length≤ek S ws:=by
  induction ws with
  | nil=>simp
  | cons w r ih=>
    have i:=ih fun v hv=>hw v (by simp [hv])
    obtain⟨w0,w1⟩:=hw w ↥1
    have:=(h _ _ (iT w0 w1)).hang ok
    unfold ek at i ⊢
    rw [List.map_cons,List.sum_cons,List.length_cons]
    lia
structure Ii (S:Nat→Std) (n:Nat) (ss:List Std):Prop where
  len:ss.length=n
  at':∀(j:Nat) (s:Std),ss[j]?=some s→s.1.length≤(S j).1.length∧s.2.length≤2*s.1.length∧(∀k∈s.1,0≤k∧k < 16)∧∀t∈s.2,0≤t∧t < 12
theorem hU(s:String):PyData.strOk (Str.ofString s)=true:=by
  rw [Str.ofString_eq_toList]
  unfold PyData.strOk
  simp only [List.size_toArray,List.length_map]
  rw [show(List.map Char.toNat s.toList).toArray.all (fun a=>decide (a < 1114112)) 0 s.toList.length=(List.map Char.toNat s.toList).all (fun a=>decide (a < 1114112)) by simp]
  rw [List.all_map,List.all_eq_true]
  intro c _
  show decide (c.toNat < 1114112)=true
  rw [decide_eq_true_eq]
  have:=c.valid
  unfold UInt32.isValidChar Nat.isValidChar at this
  show c.val.toNat < _
  lia
theorem ko{a b:Str}(h1:PyData.strOk a=true)(h2:PyData.strOk b=true):PyData.strOk (a++b)=true:=by
  unfold PyData.strOk at*
  rw [show(a++b).cps=a.cps++b.cps from rfl]
  simp only [Array.all_append,h1,h2,Bool.and_self]
theorem pS{sep:Str}(h:PyData.strOk sep=true):∀(ts:List Str),(∀t∈ts,PyData.strOk t=true)→PyData.strOk (Str.join sep ts)=true
  | [],_=>by show PyData.strOk Str.empty=true;simp [PyData.strOk,Str.empty]
  | [x],hx=>hx x ↥1
  | x::y::r,hx=>ko (ko (hx x ↥1) h) (pS h (y::r) fun t ht=>hx t (by simp at ht ⊢;exact .inr ht))
theorem yl{ts:List Str}(h:∀t∈ts,PyData.strOk t=true):PyData.strOk (tupleText ts)=true:=by
  unfold tupleText
  exact ko (ko (hU _) (pS (hU _) ts h)) (hU _)
structure Sz (n dep:Nat) (d:PyData):Prop where
  fl:lI d=true
  sh:d.showable=true
  dp:d.depth≤dep
  ln:d.shown.length≤n
  so:PyData.strOk d.shown=true
theorem Sz.mono{n m dep e:Nat}{d:PyData}(h:Sz n dep d)(h1:n≤m)(h2:dep≤e):Sz m e d:=⟨h.fl,h.sh,Nat.le_trans h.dp h2,Nat.le_trans h.ln h1,h.so⟩
theorem Sz.int{k:Int}(h0:0≤k)(h1:k < 16):Sz 2 2 (.int k):=by
  have:k=0∨k=1∨k=2∨k=3∨k=4∨k=5∨k=6∨k=7∨k=8∨k=9∨k=10∨k=11∨k=12∨k=13∨k=14∨k=15:=by lia
  rcases this with rfl | rfl | rfl | rfl | rfl | rfl | rfl | rfl | rfl | rfl | rfl | rfl | rfl | rfl | rfl | rfl<;>exact⟨rfl,by decide,by simp [PyData.depth],by decide,hU _⟩
theorem Sz.all{n dep:Nat}:∀{ds:List PyData},(∀d∈ds,Sz n dep d)→j8 ds=true∧PyData.showableAll ds=true∧PyData.depthAll ds≤dep∧piled (PyData.shownAll ds)≤ds.length*(n+2)∧∀t∈PyData.shownAll ds,PyData.strOk t=true
  | [],_=>⟨rfl,rfl,by simp [PyData.depthAll],by simp [PyData.shownAll,piled],by simp [PyData.shownAll]⟩
  | d::r,h=>by
    obtain⟨a1,a2,a3,a4,a5⟩:=h d ↥1
    obtain⟨b1,b2,b3,b4,b5⟩:=Sz.all (ds:=r) fun x hx=>h x (by simp [hx])
    refine⟨?_,?_,?_,?_,?_⟩
    · simp only [j8,a1,b1,Bool.and_self]
    · simp only [PyData.showableAll,a2,b2,Bool.and_self]
    · simp only [PyData.depthAll];lia
    · simp only [PyData.shownAll,pB,List.length_cons,Nat.succ_mul];lia
    · intro t ht
      simp only [PyData.shownAll,List.mem_cons] at ht
      rcases ht with rfl | ht
      · exact a5
      · exact b5 t ht
theorem Sz.tup{n dep m:Nat}{ds:List PyData}(h:∀d∈ds,Sz n dep d)(hl:ds.length≤m):Sz (m*(n+2)+3) (dep+2) (.tuple ds):=by
  obtain⟨b1,b2,b3,b4,b5⟩:=Sz.all h
  refine⟨by simpa [lI] using b1,b2,by simp only [PyData.depth];lia,?_,by simp only [PyData.shown];exact yl b5⟩
  have h2:=rk (PyData.shownAll ds)
  have:=Nat.mul_le_mul_right (n+2) hl
  simp only [PyData.shown]
  lia
theorem Sz.ok{n dep:Nat}{d:PyData}(h:Sz n dep d)(h1:n≤16777216)(h2:dep≤60):md d=true:=by
  have sl:sizeLine=16777216:=sizeLine_eq
  unfold md
  rw [h.fl,h.sh,decide_eq_true (Nat.le_trans h.dp h2),decide_eq_true (show d.shown.length≤sizeLine by rw [sl];exact Nat.le_trans h.ln h1)]
  rfl
theorem Bu{e:En}{d:PyData}(h:md d=true):g1 nB e [.d d]=some (.d (.str d.shown)):=by
  simp [g1,nB,h]
theorem Bp{e:En}{s:Str}(h:PyData.strOk s=true):di false e (.d (.str s)) (.d (.str s))=some (.d (.bool true)):=by
  simp [di,lG,SeqAt.shaped,PyData.canLay0,PyData.depth,PyData.eqv,h]
theorem Bo{e:En}{xs ys:List PyData}(hl:xs.length+ys.length≤1000000):bL e (.l xs) (.l ys)=some (.l (xs++ys)):=by
  simp [bL,ze,y_,gI,bA,tM,fN,wD,vo,hl]
theorem vd{e:En}{d:PyData}{n:Int}(h0:0≤n)(h1:n≤100000):bQ e (.d (.tuple [d])) (.d (.int n))=some (.d (.tuple (List.replicate n.toNat d))):=by
  have a:oK e (.d (.tuple [d])) (.d (.int n))=some (.d (.tuple (List.replicate n.toNat d))):=by
    simp [oK,fN,bA,h0,h1]
  have b:oI e (.d (.tuple [d])) (.d (.int n))=none:=by simp [oI,gI,bA]
  unfold bQ ze
  rw [b,a]
  rfl
theorem E1{q:Int}(h0:0≤q)(h1:q < 16):∃m:Int,0 < m∧m < 2 ^ 64∧∀e:En,Bv e (.d (.int 1)) (.d (.int q))=some (.d (.int m)):=by
  have:q=0∨q=1∨q=2∨q=3∨q=4∨q=5∨q=6∨q=7∨q=8∨q=9∨q=10∨q=11∨q=12∨q=13∨q=14∨q=15:=by lia
  rcases this with rfl | rfl | rfl | rfl | rfl | rfl | rfl | rfl | rfl | rfl | rfl | rfl | rfl | rfl | rfl | rfl<;>exact⟨_,by decide,by decide,fun e=>kX ⋯⟩
theorem qi{bs:List Bool}{k:Int}(h0:0≤k)(h1:k < (bs.length:Int)):atI (bs.map PyData.bool) k=some (.bool (bs.getD k.toNat false)):=by
  rw [gC h0 (by rw [List.length_map];exact h1),List.getElem?_map]
  have:k.toNat < bs.length:=by lia
  simp [this]
theorem yr{pos:Nat→Option Nat}{ei e:En}{j k:Nat}{xs ys:List PyData}(hp:pos j=some k)(hk:ei[k]?=some (some (.l ys)))(hj:e[j]?=some (some (.l xs)))(ho:∀i,i≠j→pos i=none∨vf e[i]?=false):mj pos ei e=e.set j (some (.l ys)):=by
  have hjl:j < e.length:=(LG hj).1
  refine List.ext_getElem? fun i=>?_
  rw [bF]
  by_cases c:j=i
  · subst c
    rw [List.getElem?_set_self hjl,hj]
    simp [hp,hk]
  · rw [List.getElem?_set_ne c]
    have:=ho i (fun z=>c z.symm)
    match h:e[i]? with
    | none=>rfl
    | some none=>rfl
    | some (some (.d x))=>rfl
    | some (some (.n x))=>rfl
    | some (some (.l x))=>
      rcases this with z | z
      · simp [z]
      · rw [h] at z;simp [vf] at z
def dR(p:Int × Bool):PyData:=.tuple [.int p.1,.bool p.2]
def rn(T:List Nd)(ans:List Bool):Nat→Int→List (Int × Bool)
  | 0,_=>[]
  | f+1,at'=>if at' < 0 then [] else((bO T at').tie,ans.getD (bO T at').tie.toNat false)::rn T ans f (if ans.getD (bO T at').tie.toNat false=true then(bO T at').yes else(bO T at').no)
theorem EV{T:List Nd}{ans:List Bool}{f:Nat}{a:Int}(h:a < 0):rn T ans f a=[]:=by
  cases f with
  | zero=>rfl
  | succ f=>unfold rn;rw [if_pos h]
def rt(T:List Nd):Int:=if T.length=0 then -1 else 0
structure iH (W:aZ) (T:List Nd) (S:Nat→Std) (ans:List Bool) (r:List (Int × Bool)) (a:Int):Prop where
  at':a= -1∨(0≤a∧a < (T.length:Int)∧r.length≤(S a.toNat).1.length)
  eq:r++rn T ans (17 - r.length) a=rn T ans 17 (rt T)
  len:r.length≤16
  inw:∀p∈r,lh W p.1
theorem iH.first{W:aZ}{T:List Nd}{S:Nat→Std}{ans:List Bool}:iH W T S ans [] (rt T):=⟨by
  unfold rt
  split
  · exact .inl rfl
  · exact .inr ⟨by lia,by lia,by simp⟩,rfl,by simp,fun p h=>by cases h⟩
theorem iH.step{W:aZ}(ok:W.Ok){T:List Nd}{S:Nat→Std}{ans:List Bool}{r:List (Int × Bool)}{a:Int}(hT:iy W T S)(h:iH W T S ans r a)(h0:0≤a):
    a < (T.length:Int)∧r.length≤15∧lh W (bO T a).tie∧iH W T S ans (r++[((bO T a).tie,ans.getD (bO T a).tie.toNat false)]) (if ans.getD (bO T a).tie.toNat false=true then(bO T a).yes else(bO T a).no):=by
  rcases h.at' with z | ⟨z1,z2,z3⟩
  · lia
  have o:=hT _ _ (iT z1 z2)
  have rm:=o.room ok
  refine⟨z2,by lia,o.tie,?_,?_,by simp;lia,fun p hp=>?_⟩
  · have key:∀b l,mq W T.length S a.toNat (bO T a).tie b l→l= -1∨(0≤l∧l < (T.length:Int)∧(r++[((bO T a).tie,ans.getD (bO T a).tie.toNat false)]).length≤(S l.toNat).1.length):=by
      intro b l hl
      rcases hl with hl | ⟨h1,h2,h3⟩
      · exact .inl hl
      · refine .inr ⟨h1,h2,?_⟩
        rw [h3]
        have:(nxt W (S a.toNat) (bO T a).tie b).1.length=(S a.toNat).1.length+1:=lr
        rw [this]
        simp;lia
    split
    · exact key _ _ o.yes
    · exact key _ _ o.no
  · have e:=h.eq
    rw [show 17 - r.length=(17 - (r.length+1))+1 by lia] at e
    unfold rn at e
    rw [if_neg ↥0] at e
    rw [List.append_assoc,List.length_append]
    exact e
  · rcases LH hp with hp | hp
    · exact h.inw p hp
    · simp at hp;rw [hp];exact o.tie
theorem iH.done{W:aZ}{T:List Nd}{S:Nat→Std}{ans:List Bool}{r:List (Int × Bool)}{a:Int}(h:iH W T S ans r a)(h0:a < 0):r=rn T ans 17 (rt T):=by
  have e:=h.eq
  rw [EV h0,List.append_nil] at e
  exact e
theorem Sz.bool{b:Bool}:Sz 5 2 (.bool b):=by
  cases b
  · exact⟨rfl,rfl,by simp [PyData.depth],by show(Str.ofString "False").length≤5;decide,hU _⟩
  · exact⟨rfl,rfl,by simp [PyData.depth],by show(Str.ofString "True").length≤5;decide,hU _⟩
theorem Sz.run{W:aZ}(ok:W.Ok){r:List (Int × Bool)}(hl:r.length≤16)(h:∀p∈r,lh W p.1):Sz 1000 6 (.tuple (r.map dR)):=by
  refine(Sz.tup (n:=17) (dep:=4) (m:=16) (fun d hd=>?_) (by rw [List.length_map];exact hl)).mono ⋯ ⋯
  obtain⟨p,hp,rfl⟩:=LI hd
  refine Sz.tup (n:=5) (dep:=2) (m:=2) (fun d hd=>?_) ↥1
  simp only [List.mem_cons,List.not_mem_nil,or_false] at hd
  have w:=h p hp
  have:=w.1;have:=w.2;have:=ok.len
  rcases hd with rfl | rfl
  · exact(Sz.int ↥0 ↥0).mono ⋯ ⋯
  · exact Sz.bool
abbrev Fr:=Int × Int
def dF(f:Fr):PyData:=.tuple [.int f.1,.int f.2]
def tm(a b:Fr):Fr:=lowM (a.1*b.1) (a.2*b.2)
def pl(a b:Fr):Fr:=lowM (a.1*b.2+b.1*a.2) (a.2*b.2)
theorem ka{t b:Int}(hb:0 < b)(ht:0≤t):∃d:Int,0 < d∧(lowM t b).1*d=t∧(lowM t b).2*d=b∧0 < (lowM t b).2∧0≤(lowM t b).1:=by
  obtain⟨d,h1,h2,h3,h4,h5⟩:=iO (t:=t) (b:=b) ↥0
  have d0:0 < d:=by
    rcases Int.lt_trichotomy d 0 with z | z | z
    · have:=Int.mul_neg_of_pos_of_neg h5 z
      lia
    · exact absurd z h2
    · exact z
  refine⟨d,d0,h3,h4,h5,?_⟩
  rcases Int.lt_or_le (lowM t b).1 0 with z | z
  · have:=Int.mul_neg_of_neg_of_pos z d0
    lia
  · exact z
theorem r_{t b i:Int}(hb:0 < b)(ht:0≤t)(h:t≤i*b):(lowM t b).1≤i*(lowM t b).2:=by
  obtain⟨d,d0,h3,h4,h5,h6⟩:=ka hb ht
  refine Int.le_of_mul_le_mul_right (a:=d) ?_ d0
  rw [h3,Int.mul_assoc,h4]
  exact h
theorem tT{t b:Int}(hb:0 < b)(ht:0≤t):(lowM t b).2 ∣ b:=by
  obtain⟨d,d0,h3,h4,h5,h6⟩:=ka hb ht
  exact⟨d,h4.symm⟩
theorem zA{t b M u:Int}(hb:0 < b)(ht:0≤t)(h:t*M=b*u):(lowM t b).2 ∣ M:=by
  have g:=oU (t:=t) (b:=b) ↥0
  obtain⟨d,d0,h3,h4,h5,h6⟩:=ka hb ht
  generalize (lowM t b).1=p at*
  generalize (lowM t b).2=q at*
  have e:p*M=q*u:=by
    refine Int.eq_of_mul_eq_mul_right (a:=d) ↥0 ?_
    rw [show p*M*d=(p*d)*M by rw [Int.mul_assoc,Int.mul_comm M d,←Int.mul_assoc],h3,h,←h4,Int.mul_assoc,Int.mul_comm d u,←Int.mul_assoc]
  have dv:q.natAbs ∣ (p*M).natAbs:=Int.natAbs_dvd_natAbs.mpr ⟨u,e⟩
  rw [Int.natAbs_mul] at dv
  have cp:Nat.Coprime q.natAbs p.natAbs:=by
    have:Nat.gcd p.natAbs q.natAbs=1:=g
    rw [Nat.Coprime,Nat.gcd_comm];exact this
  exact Int.natAbs_dvd_natAbs.mp (cp.dvd_of_dvd_mul_left dv)
structure uP (M:Int) (f:Fr):Prop where
  pos:0 < f.2
  lo:0≤f.1
  hi:f.1≤f.2
  dv:f.2 ∣ M
theorem uP.tm{M N:Int}{a b:Fr}(h:uP M a)(k:uP N b):uP (M*N) (tm a b):=by
  have p:0 < a.2*b.2:=Int.mul_pos h.pos k.pos
  have t:0≤a.1*b.1:=Int.mul_nonneg h.lo k.lo
  obtain⟨d,d0,h3,h4,h5,h6⟩:=ka p t
  refine⟨h5,h6,?_,Int.dvd_trans (tT p t) (Int.mul_dvd_mul h.dv k.dv)⟩
  have:=r_ (i:=1) p t (by rw [Int.one_mul];exact Int.mul_le_mul h.hi k.hi k.lo (Int.le_of_lt h.pos))
  rw [Int.one_mul] at this
  exact this
structure rF (M i:Int) (f:Fr):Prop where
  pos:0 < f.2
  lo:0≤f.1
  hi:f.1≤i*f.2
  dv:f.2 ∣ M
theorem uP.bt{M:Int}{f:Fr}{n:Nat}(h:uP M f)(hM:Bt n M)(h0:0 < M):Bt n f.1∧Bt n f.2:=by
  have l:=Int.le_of_dvd h0 h.dv
  have:=h.pos;have:=h.lo;have:=h.hi
  exact⟨hM.of_le ↥0,hM.of_le ↥0⟩
theorem rF.bt{M i:Int}{f:Fr}{n m:Nat}(h:rF M i f)(hM:Bt n M)(h0:0 < M)(hi:Bt m i):Bt (m+n) f.1∧Bt n f.2:=by
  have l:=Int.le_of_dvd h0 h.dv
  have p:=h.pos;have q:=h.lo;have r:=h.hi
  have b2:Bt n f.2:=hM.of_le ↥0
  exact⟨(hi.mul b2).of_le ↥0,b2⟩
def bp(W:aZ):List Int→Int
  | []=>1
  | k::r=>(W.tie k).bot*bp W r
def FC(W:aZ):Int:=bp W W.rng
def ch(W:aZ)(k:Int)(b:Bool):Fr:=if b then((W.tie k).top,(W.tie k).bot) else((W.tie k).bot - (W.tie k).top,(W.tie k).bot)
theorem zB{t b:Int}(hb:0 < b)(hg:Int.gcd t b=1):lowM (b - t) b=(b - t,b):=by
  have g:Int.gcd (b - t) b=1:=by
    rw [show b - t= -(t - b) by lia,Int.neg_gcd,Int.gcd_sub_self_left,hg]
  unfold lowM
  rw [if_neg ↥0,g]
  simp
structure Ih (W:aZ) (S:Nat→Std) (n:Nat) (rs:List Fr):Prop where
  len:rs.length=n
  at':∀(j:Nat) (f:Fr),rs[j]?=some f→uP (bp W (S j).1) f
structure Ib (W:aZ) (i:Nat) (ss:List Fr):Prop where
  len:ss.length=W.ties.length
  at':∀(j:Nat) (f:Fr),ss[j]?=some f→rF (FC W) (i:Int) f
theorem Sz.intB{n:Nat}{k:Int}(h:Bt n k)(h0:0 < n)(hn:n≤1900):Sz (n+1) 2 (.int k):=by
  have l:=h.log h0
  refine⟨rfl,?_,by simp [PyData.depth],?_,hU _⟩
  · show decide (k.natAbs.log2 < 1920)=true
    rw [decide_eq_true_eq];lia
  · have:=int_text_length_le h0 l
    show(Str.ofString (toString k)).length≤n+1
    rw [PySem.ofString_length];exact this
theorem Sz.fr{n:Nat}{f:Fr}(h1:Bt n f.1)(h2:Bt n f.2)(h0:0 < n)(hn:n≤1900):Sz (2*(n+3)+3) 4 (dF f):=Sz.tup (n:=n+1) (dep:=2) (m:=2) (fun d hd=>by
  simp only [List.mem_cons,List.not_mem_nil,or_false] at hd
  rcases hd with rfl | rfl
  · exact Sz.intB h1 h0 hn
  · exact Sz.intB h2 h0 hn) ↥1
def Fn(sc:Scope)(x:Str):Bool:=match sc.names.lookup x with
  | some .local=>true
  | some .cell=>true
  | some .free=>true
  | _=>false
theorem CK{sc:Scope}{x:Str}(h:Fn sc x=true):yK sc x:=by
  unfold Fn at h
  unfold yK
  split at h
  · rename_i e;exact .inl e
  · rename_i e;exact .inr (.inl e)
  · rename_i e;exact .inr (.inr e)
  · cases h
section
variable{X:Cx}{K:⇑0}
theorem qw(i:Nat){x:Str}{pos:Pos}(hN:X.N[i]?=some x)(hv:Fn X.env.scope x=true)(hd:((x==("__debug__":Str)) || (x==("__classdict__":Str)))=false):PE X (.Name x pos) (fE K (af i)):=qv i hN (CK hv) (Bool.or_eq_false_iff.mp hd).1 (Bool.or_eq_false_iff.mp hd).2
end
section
variable{X:Cx}{tg a b c:Expr}{ta:TA}{p pos p2 pos2:Pos}
end
section
variable{K:⇑0}{σ:L2.St}
end
section
variable{X:Cx}{K:⇑0}{tg a b c:Expr}{fs:FA}{pos p p2 pos2:Pos}
end
section
variable(P:Program)(w:World)
end
section
variable{P:Program}{w:World}{H H':Hp}{h h':Heap}{a:Addr}{o:HO}
end
section
variable{P:Program}{w:World}{H:Hp}{h h':Heap}{x e:Addr}{o':HO}
end
section
variable{fs fs' ex ex':List Addr}{H H1 H2:Hp}{h h1 h2 h':Heap}{a x e:Addr}{o:HO}
end
section
variable{X:Cx}{pins:List (Addr × Obj)}{σ:List (Option V)}{H H':Hp}{s:Shared}{h':Heap}
end
section
variable{X:Cx}
variable{a b:Expr}{ta tb:TE}{pos:Pos}
variable{tA tB':TT}{fL:List Expr}
end
section
variable{X:Cx}{pins:List (Addr × Obj)}{σ:St}{H:Hp}{s:Shared}{a:Addr}{xs ys:List V}
end
section
variable{X:Cx}{pins:List (Addr × Obj)}{σ:St}{H:Hp}{s:Shared}{E:Value→Shared→Prop}
end
section
variable{X:Cx}{st:Stmt}{fL:List Stmt}{t u:TS}{e:Expr}{te:TE}{pos:Pos}
end
section
variable{X:Cx}{pos:Pos}
end
section
variable{X:Cx}{pos:Pos}
end
section
variable{X:Cx}{tg:Expr}
end
section
variable{X:Cx}{a b c:Expr}{ta tb tc:TE}{pos:Pos}
end
section
variable{X:Cx}{a b c:Expr}{ta tb tc:TE}{pos:Pos}
end
section
variable{prog:Program}{w:World}{A:Around}{E:Value→Shared→Prop}{s:Shared}{K:⇑0}{x dx C f:Addr}{mA:Str→Option Value}{name:Str}{v:Value}
end
section
variable{P:Program}{w:World}{H H':Hp}{h h':Heap}{a C dx:Addr}{fs fs':List (Str × V)}
end
section
variable{X:Cx}{pins:List (Addr × Obj)}{σ:St}{H:Hp}{s:Shared}{a C dx:Addr}{fs:List (Str × V)}{f:Str}{v:V}{A:Around}{E:Value→Shared→Prop}
end
section
variable{X:Cx}{o e value:Expr}{f:Str}{pos pos' tpos:Pos}{ta tv:TE}
end
section
variable{X:Cx}{pins:List (Addr × Obj)}{σ:St}{H:Hp}{s:Shared}{A:Around}{E:Value→Shared→Prop}{Q:Value→Shared→Prop}{c:Value}{b:Bool}
end
section
variable{X:Cx}{e:Expr}{es:List Expr}{te:TE}{t:TA}{pos:Pos}
end
section
variable{X:Cx}{pins:List (Addr × Obj)}{σ:St}{H:Hp}{s s':Shared}
end
section
variable{X:Cx}{CX:rB}{k:Nat}{f C:Addr}{fd:FuncData}{ps:List Str}{sp:Sp}{dvs:List V}{ds:List Value}{E:XK}{x m:Str}{p pos apos:Pos}{e o:Expr}{es:List Expr}{ta:TE}{t:TA}
end
section
variable{X:Cx}{CX:rB}{k:Nat}{f C:Addr}{fd:FuncData}{ps ks:List Str}{sp:Sp}{E:XK}{x m:Str}{p pos apos kpos:Pos}{e o:Expr}{es:List Expr}{kws:List Keyword}{te ta:TE}{t tk:TA}{nm:Option Str}
variable{g:List Value→List Value→List Value}{gV:List V→List V→List V}
end
section
variable{X:Cx}{x:Str}{p pos:Pos}{e:Expr}{es:List Expr}{t:TA}{id T:String}{r:List V→Hp→VK→Prop}
end
section
variable{κ:Type}[DecidableEq κ]
def Hy(kvs:List (κ × V))(k:κ)(v:V):List (κ × V):=
  if (kvs.any fun kv=>decide (kv.1=k))=true then kvs.map (fun kv=>if kv.1=k then(kv.1,v) else kv) else kvs++[(k,v)]
end
section
variable{P:Program}{w:World}{H:Hp}{h:Heap}{a:Addr}
end
section
variable{X:Cx}{pins:List (Addr × Obj)}{σ:St}{H:Hp}{s:Shared}{a:Addr}{y v:V}{u r:Value}{o:Option V}{A:Around}{E:Value→Shared→Prop}
end
section
variable{X:Cx}{pins:List (Addr × Obj)}{σ:St}{H:Hp}{s:Shared}{a:Addr}{kvs:List (mV × V)}{k:mV}{u:Value}{A:Around}{E:Value→Shared→Prop}
end
section
variable{X:Cx}{o i e value:Expr}{pos pos' tpos:Pos}{td ty tv:TE}
end
section
variable{X:Cx}{pos:Pos}
end
section
variable{X:Cx}{pins:List (Addr × Obj)}{σ:St}{H:Hp}{s:Shared}{a:Addr}{y d:V}{u r:Value}{o:Option V}{A:Around}{E:Value→Shared→Prop}
end
section
variable{X:Cx}{o e f:Expr}{apos cpos:Pos}{td ty tx:TE}
end
section
variable{X:Cx}{pins:List (Addr × Obj)}{σ:St}{H:Hp}{s:Shared}{a:Addr}{kvs:List (mV × V)}{A:Around}{E:Value→Shared→Prop}
end
section
variable{X:Cx}{pins:List (Addr × Obj)}{σ:St}{H:Hp}{s:Shared}{a:Addr}{y:V}{u:Value}{A:Around}{E:Value→Shared→Prop}
end
end L2
namespace Att
open PySem PySem.W PySem.Calls PyProof.Rows
section
variable{prog:Program}{w:World}{A:Around}{E:Value→Shared→Prop}{s:Shared}{K:Frag}
end
end Att
namespace L2
open PySem PySem.Spec PyProof.Rows
section
variable{P:Program}{w:World}{K:⇑0}{mg:Str→Option Value}{base:Heap}
end
section
variable{X:Cx}
end
section
variable{κ:Type}[DecidableEq κ]
end
section
variable{X:Cx}{K:⇑0}{a:Expr}{fa:FE}{pos p p2:Pos}
theorem zX{x:Str}{T:String}(hg:Gl X x)(hm:X.mg x=none)(hv:bootBuiltins x=some (.type T))(hn:x≠"__name__")(hd:(x==("__debug__":Str))=false):PE X (.Name x pos) (tC (.ty T)):=fun pins s σ H Q I h=>
  iD I hg hm hv ⟨.ty T,H,I,rfl,h⟩ hn hd
end
section
variable{X:Cx}{K:⇑0}
def Dq:FS:=fun _=>none
theorem Cf{st:Stmt}:PS X st (fS K Dq []):=fun pins s σ H D I h=>by
  obtain⟨F,e,fl,R,hf,_⟩:=h
  cases hf
end
section
variable{X:Cx}{K:⇑0}{σ:L2.St}{F H:Hp}{e:En}{pos p1 p2:Pos}
end
section
variable{X:Cx}{K:⇑0}{a b c d:Expr}{ta tb tc td:TE}{fa fb fc fd:FE}{pos:Pos}
end
section
variable{X:Cx}{K:⇑0}{a b:Expr}{es:List Expr}{fa fb:FE}{fs:FA}{pos p apos:Pos}
def rq:Rv→Option Str
  | .d (.str x)=>some x
  | _=>none
theorem pV{σ:L2.St}{H0 F H:Hp}{e:En}{r:Rv}{v:V}{x:Str}(h:cC K σ H0 F H e r v)(q:rq r=some x):v=.str x:=by
  unfold rq at q
  split at q
  · cases q;exact rR.mp (show DA K F (.str _) v from h)
  · cases q
theorem AG{σ:L2.St}{H0 F H:Hp}{e:En}{x:Str}:cC K σ H0 F H e (.d (.str x)) (.str x):=(show DA K F (.str x) (.str x) from rR.mpr rfl)
def rV:En→Rv→Option Rv:=fun _ x=>(bA x).bind fun i=>if i.natAbs.log2 < 1900 then some (.d (.str (toString i:String))) else none
def HB:V→Hp→VK→Prop:=fun v H Q=>∃i:Int,v=.int i∧i.natAbs.log2 < 1900∧Q (.str (toString i:String)) H
theorem FH:Fy K HB rV:=by
  intro σ H0 F H e x z v Q R A hg q
  unfold rV at hg
  obtain⟨i,h1,hg⟩:=LD hg
  split at hg
  case isFalse=>cases hg
  case isTrue hi=>
  cases hg
  exact⟨i,cg A h1,hi,q F H _ (eH.refl _ _ _ _) R AG⟩
theorem Dl(ha:PE X a (fE K fa)):PE X (.FormattedValue a (-1) none pos) (fE K (pW rV fa)):=fun pins s σ H Q I h=>by
  have h1:=A4 FH h
  refine FormattedValue_plain (bS (ha pins s σ H _ I h1) fun v s1 ⟨x,H1,I1,r1,i,e,hi,q1⟩=>?_)
  subst e
  obtain⟨t,rfl⟩:=r1
  exact formatField_int_small ↥0 ⟨.str _,H1,I1.tok _,⟨_,rfl⟩,q1⟩
def G5(fa fb fc:FE):FE:=fun e=>(fa e).bind fun p=>(rq p.1).bind fun x=>(fb p.2).bind fun q=>(rq q.1).bind fun y=>(fc q.2).bind fun r=>(rq r.1).bind fun z=>if x.length+y.length+z.length≤1000000 then some (.d (.str (Str.empty++x++y++z)),r.2) else none
theorem oT(x y:Str):(x++y).length=x.length+y.length:=strLen_append x y
theorem Hz{c:Expr}{fc:FE}(ha:PE X a (fE K fa))(hb:PE X b (fE K fb))(hc:PE X c (fE K fc)):PE X (.JoinedStr [a,b,c] pos) (fE K (G5 fa fb fc)):=fun pins s σ H Q I h=>by
  obtain⟨F,e,r,e',R,hf,q⟩:=h
  unfold G5 at hf
  obtain⟨⟨r1,e1⟩,g1,hf⟩:=LD hf
  obtain⟨x,g2,hf⟩:=LD hf
  obtain⟨⟨r2,e2⟩,g3,hf⟩:=LD hf
  obtain⟨y,g4,hf⟩:=LD hf
  obtain⟨⟨r3,e3⟩,g5,hf⟩:=LD hf
  obtain⟨z,g6,hf⟩:=LD hf
  split at hf
  case isFalse=>cases hf
  case isTrue hl=>
  cases hf
  have e0:(Str.empty).length=0:=rfl
  have l1:(Str.empty++x).length=x.length:=by rw [oT,e0];lia
  have l2:(Str.empty++x++y).length=x.length+y.length:=by rw [oT,l1]
  have l3:(Str.empty++x++y++z).length=x.length+y.length+z.length:=by rw [oT,l2]
  refine JoinedStr_many (joinParts_cons (bS (ha pins s σ H (fun v H1=>v=.str x∧∃F1,eH σ F H e F1 H1 e1∧bc K F1 H1 σ e1) I ⟨F,e,r1,e1,R,g1,fun F1 H1 v X1 R1 A1=>⟨pV A1 g2,F1,X1,R1⟩⟩) fun v s1 ⟨xv,H1,I1,rv1,ex,F1,X1,R1⟩=>?_))
  subst ex
  obtain⟨t1,rfl⟩:=rv1
  refine⟨by rw [l1,sizeLine_eq];lia,joinParts_cons (bS (hb pins s1 σ H1 (fun v H2=>v=.str y∧∃F2,eH σ F1 H1 e1 F2 H2 e2∧bc K F2 H2 σ e2) I1 ⟨F1,e1,r2,e2,R1,g3,fun F2 H2 v X2 R2 A2=>⟨pV A2 g4,F2,X2,R2⟩⟩) fun v s2 ⟨yv,H2,I2,rv2,ey,F2,X2,R2⟩=>?_)⟩
  subst ey
  obtain⟨t2,rfl⟩:=rv2
  refine⟨by rw [l2,sizeLine_eq];lia,joinParts_cons (bS (hc pins s2 σ H2 (fun v H3=>v=.str z∧∃F3,eH σ F2 H2 e2 F3 H3 e3∧bc K F3 H3 σ e3) I2 ⟨F2,e2,r3,e3,R2,g5,fun F3 H3 v X3 R3 A3=>⟨pV A3 g6,F3,X3,R3⟩⟩) fun v s3 ⟨zv,H3,I3,rv3,ez,F3,X3,R3⟩=>?_)⟩
  subst ez
  obtain⟨t3,rfl⟩:=rv3
  refine⟨by rw [l3,sizeLine_eq];lia,joinParts_nil ⟨.str _,H3,I3.tok _,⟨_,rfl⟩,q F3 H3 _ ((X1.trans X2).trans X3) R3 AG⟩ (by rw [l3,sizeLine_eq];lia)⟩
end
section
variable{X:Cx}{K:⇑0}{a b:Expr}{fa fb:FE}{fs:FA}{pos p p2 p3:Pos}
end
theorem uP.tmS{N M i:Int}{c y:Fr}(hc:uP N c)(hy:rF M i y):rF (N*M) i (L2.tm c y):=by
  have p:0 < c.2*y.2:=Int.mul_pos hc.pos hy.pos
  have t:0≤c.1*y.1:=Int.mul_nonneg hc.lo hy.lo
  obtain⟨d,d0,h3,h4,h5,h6⟩:=ka p t
  refine⟨h5,h6,r_ p t ?_,Int.dvd_trans (tT p t) (Int.mul_dvd_mul hc.dv hy.dv)⟩
  have e1:c.1*y.1≤c.2*y.1:=Int.mul_le_mul_of_nonneg_right hc.hi hy.lo
  have e2:c.2*y.1≤c.2*(i*y.2):=Int.mul_le_mul_of_nonneg_left hy.hi (Int.le_of_lt hc.pos)
  rw [show i*(c.2*y.2)=c.2*(i*y.2) by ac_rfl]
  lia
theorem rF.plS{M i j:Int}{a b:Fr}(h:rF M i a)(k:rF M j b):rF M (i+j) (L2.pl a b):=by
  have p:0 < a.2*b.2:=Int.mul_pos h.pos k.pos
  have t:0≤a.1*b.2+b.1*a.2:=Int.add_nonneg (Int.mul_nonneg h.lo (Int.le_of_lt k.pos)) (Int.mul_nonneg k.lo (Int.le_of_lt h.pos))
  obtain⟨d,d0,h3,h4,h5,h6⟩:=ka p t
  refine⟨h5,h6,r_ p t ?_,?_⟩
  · have e1:a.1*b.2≤i*a.2*b.2:=Int.mul_le_mul_of_nonneg_right h.hi (Int.le_of_lt k.pos)
    have e2:b.1*a.2≤j*b.2*a.2:=Int.mul_le_mul_of_nonneg_right k.hi (Int.le_of_lt h.pos)
    rw [Int.add_mul,show i*(a.2*b.2)=i*a.2*b.2 by ac_rfl,show j*(a.2*b.2)=j*b.2*a.2 by ac_rfl]
    lia
  · obtain⟨x,hx⟩:=h.dv
    obtain⟨y,hy⟩:=k.dv
    refine zA (u:=a.1*x+b.1*y) p t ?_
    rw [Int.add_mul,Int.mul_add]
    congr 1
    · rw [hx]
      rw [show a.1*b.2*(a.2*x)=a.2*b.2*(a.1*x) by ac_rfl]
    · rw [hy]
      rw [show b.1*a.2*(b.2*y)=a.2*b.2*(b.1*y) by ac_rfl]
def bq(W:aZ)(as:List Int):Int:=bp W (W.rng.filter fun k=> !as.contains k)
def wI(l:Nat):Int:=1000*(2 ^ (16 - l) - 1)
structure HZ (W:aZ) (k:Int) (as:List Int) (y n:Fr):Prop where
  y:rF (bq W (aZ.askd as k)) (wI (as.length+1)) y
  n:rF (bq W (aZ.askd as k)) (wI (as.length+1)) n
  len:as.length≤15
  inw:lh W k
  new:k∉as
def lk(ws:List Fr)(l:Int):Fr:=if l= -1 then(0,1) else ws.getD l.toNat (0,1)
structure Ij (W:aZ) (S:Nat→Std) (n:Nat) (ws:List Fr):Prop where
  len:ws.length=n
  at':∀(j:Nat) (f:Fr),ws[j]?=some f→rF (bq W (S j).1) (wI (S j).1.length) f
theorem wc{M i:Int}(h:0≤i):rF M i (0,1):=⟨by decide,by decide,by show(0:Int)≤i*1;lia,Int.one_dvd _⟩
theorem i9{cs:En}{g:FG}{ft:FT}{fe:FE}{b:PyData→Bool}{y:PyData→PyData}{u:PyData→En}(n:Nat):∀(items:List PyData) (t:En) (acc:List PyData),t.length=n→(∀x∈items,∀t:En,t.length=n→g x (cs++t)=some (cs++u x))→(∀x∈items,(u x).length=n)→
    (∀x∈items,ft (cs++u x)=some (b x,cs++u x))→(∀x∈items,b x=true→fe (cs++u x)=some (.d (y x),cs++u x))→acc.length+items.length≤1000000→
    ∃t',t'.length=n∧cF g ft fe items (cs++t) acc=some (acc++(items.filter b).map y,cs++t')
  | [],t,acc,h,_,_,_,_,_=>⟨t,h,by simp [cF]⟩
  | x::r,t,acc,h,hg,hu,h1,h2,hl=>by
    have h1x:=h1 x ↥1
    unfold cF
    rw [hg x ↥1 t h]
    simp only [Option.bind_some,h1x]
    cases hb:b x with
    | true=>
      simp only [if_true,h2 x ↥1 hb,Option.bind_some,kW]
      rw [if_pos (by simp at hl;lia)]
      obtain⟨t',e1,ih⟩:=i9 (b:=b) (y:=y) (u:=u) n r (u x) (acc++[y x]) (hu x ↥1) (fun z hz=>hg z (by simp [hz])) (fun z hz=>hu z (by simp [hz])) (fun z hz=>h1 z (by simp [hz])) (fun z hz=>h2 z (by simp [hz])) (by simp at hl ⊢;lia)
      exact⟨t',e1,by rw [ih];simp [hb]⟩
    | false=>
      simp only [Bool.false_eq_true,if_false]
      obtain⟨t',e1,ih⟩:=i9 (b:=b) (y:=y) (u:=u) n r (u x) acc (hu x ↥1) (fun z hz=>hg z (by simp [hz])) (fun z hz=>hu z (by simp [hz])) (fun z hz=>h1 z (by simp [hz])) (fun z hz=>h2 z (by simp [hz])) (by simp at hl;lia)
      exact⟨t',e1,by rw [ih];simp [hb]⟩
theorem kr{nT:Nat}{fi:FI}{g:FG}{ft:FT}{fe:FE}{e e1 eo:En}{items out:List PyData}{own:hZ}(h1:fi e=some (items,own,e1))(h3:cF g ft fe items (List.replicate nT none) []=some (out,eo)):bG [] nT fi g ft fe e=some (.l out,e1):=by
  unfold bG
  rw [h1]
  simp only [Option.bind_some]
  rw [if_pos ↥1,show mC [] nT e1=List.replicate nT none from rfl,h3]
  simp only [Option.bind_some]
  rw [if_pos (by simp [gD])]
  congr 2
  refine List.ext_getElem? fun i=>?_
  rw [bF]
  match h:e1[i]? with
  | none=>rfl
  | some none=>rfl
  | some (some (.d x))=>rfl
  | some (some (.n x))=>rfl
  | some (some (.l x))=>rfl
def nS(n:Int):Str:=Str.ofString (toString n)
theorem wR:∀n:Fin 1001,(Str.ofString (toString ((n.val:Nat):Int))).length≤4:=by decide+kernel
theorem D5{n:Int}(h0:0≤n)(h1:n≤1000):n.natAbs.log2 < 1900:=by
  have:=Nat.log2_le_self n.natAbs
  lia
theorem tN{e:En}{i:Int}(h0:0≤i)(h1:i≤1000):rV e (.d (.int i))=some (.d (.str (nS i))):=by
  simp only [rV,bA,Option.bind_some]
  rw [if_pos (D5 h0 h1)];rfl
theorem vN{ls:List Str}{k:Nat}(h:∀x∈ls,x.length≤k):(ls.map (·.length)).sum≤ls.length*k:=by
  induction ls with
  | nil=>simp
  | cons x r ih=>
    have h1:=h x ↥1
    have h2:=ih fun y hy=>h y (by simp [hy])
    simp only [List.map_cons,List.sum_cons,List.length_cons,Nat.succ_mul]
    lia
section
variable{X:Cx}{K:⇑0}{a:Expr}{fa:FE}{pos p pos2 p2:Pos}
end
section
variable{X:Cx}{K:⇑0}{a:Expr}{fa:FE}
end
abbrev Rn:=List (Int × Bool)
def Bn(R:Rn):List Int:=R.map (·.1)
def C4(W:aZ)(R:Rn):List Int:=(R.filter (·.2)).flatMap fun r=>[(W.tie r.1).one,(W.tie r.1).other]
structure Ig (W:aZ) (R:Rn) (asked taken:List Int):Prop where
  pa:asked.Perm (Bn R)
  pt:taken.Perm (C4 W R)
  inw:∀k∈Bn R,lh W k
  nd:(Bn R).Nodup
  nk:(C4 W R).Nodup
  bd:∀t:Int,0≤t→t < W.things→W.many (Bn R) t≤W.pat.getD t.toNat 0
  ak:(R.length:Int)≤W.asks
  sa:asked.Pairwise (· ≤·)
  st:taken.Pairwise (· ≤·)
section
variable{prog:Program}{w:World}{A:Around}{R:Result→Shared→Prop}
def lM(elt tg iter tg2 iter2:Expr)(ifs ifs2:List Expr)(scope:Scope)(pos:Pos)(acc:Value)(env:Env)(k:Sem PySem.Fin):Sem PySem.Fin:=do
  let x ←eval iter2 env
  standAt iter2.pos
  let x ←foldedSetIterable iter2 env x
  let _ ←runOwn (.compStart (.ListComp elt [⟨tg,iter,ifs,0⟩,⟨tg2,iter2,ifs2,0⟩] scope pos) 1 (←holding [x] (pyIter x)) acc env) env
  k
theorem rO(elt tg iter tg2 iter2:Expr)(ifs ifs2:List Expr)(scope:Scope)(pos:Pos)(it acc:Value)(env:Env):
    compTurn (.ListComp elt [⟨tg,iter,ifs,0⟩,⟨tg2,iter2,ifs2,0⟩] scope pos) 0 it acc env=(do
      standAt iter.pos
      match ←pyNext it with
      | none=>pure (.done .next)
      | some v=>
        letOwnedTupleGo tg it v
        assign tg env v
        let mut ok:=true
        for c in ifs do
          if ok then ok ←isTrue c env (eval c env)
        if ok then lM elt tg iter tg2 iter2 ifs ifs2 scope pos acc env (again (.compLoop (.ListComp elt [⟨tg,iter,ifs,0⟩,⟨tg2,iter2,ifs2,0⟩] scope pos) 0 it acc env))
        else again (.compLoop (.ListComp elt [⟨tg,iter,ifs,0⟩,⟨tg2,iter2,ifs2,0⟩] scope pos) 0 it acc env)):=by rfl
theorem tJ(elt tg iter tg2 iter2:Expr)(ifs ifs2:List Expr)(scope:Scope)(pos:Pos)(it acc:Value)(env:Env):
    compTurn (.ListComp elt [⟨tg,iter,ifs,0⟩,⟨tg2,iter2,ifs2,0⟩] scope pos) 1 it acc env=(do
      standAt iter2.pos
      match ←pyNext it with
      | none=>pure (.done .next)
      | some v=>
        letOwnedTupleGo tg2 it v
        assign tg2 env v
        let mut ok:=true
        for c in ifs2 do
          if ok then ok ←isTrue c env (eval c env)
        if ok then
          (do let _ ←call (.builtin "list.append") [acc,←eval elt env])
        again (.compLoop (.ListComp elt [⟨tg,iter,ifs,0⟩,⟨tg2,iter2,ifs2,0⟩] scope pos) 1 it acc env)):=by rfl
def Bi(prog:Program)(w:World)(A:Around)(B:Sem PySem.Fin→Sem PySem.Fin)(tg:Expr)(ifs:List Expr)(env:Env)(it:Value)(onward:Shared→Prop)(v:Value)(u:Shared):Prop:=
  wpAny (model prog w) A (letOwnedTupleGo tg it v) (fun _ u1=>wpAny (model prog w) A (assign tg env v) (fun _ u2=>wpAny (model prog w) A
    (forIn ifs true fun c r=>if r=true then do let ok ←isTrue c env (eval c env);pure (ForInStep.yield ok) else pure (ForInStep.yield r)) (fun ok u3=>if ok=true then(∀(k:Sem PySem.Fin) (Q:PySem.Fin→Shared→Prop) (E:Value→Shared→Prop),(∀u5,onward u5→wpAny (model prog w) A k Q E u5)→wpAny (model prog w) A (B k) Q E u3) else onward u3) wU u2) wU u1) wU u
theorem rL{elt tg iter tg2 iter2:Expr}{ifs ifs2:List Expr}{scope:Scope}{pos:Pos}{it acc:Value}{env:Env}(J:Nat→Shared→Prop)
    (turn:∀n u,J n u→wpAny (model prog w) A (pyNext it) (fun r u1=>(r=none→R (.ok .next) u1)∧∀v,r=some v→Bi prog w A (lM elt tg iter tg2 iter2 ifs ifs2 scope pos acc env) tg ifs env it (fun u2=>∃m,m < n∧J m u2) v u1) wU u){n0:Nat}{u0:Shared}(eG:J n0 u0):
    codeAny (model prog w) A (.compLoop (.ListComp elt [⟨tg,iter,ifs,0⟩,⟨tg2,iter2,ifs2,0⟩] scope pos) 0 it acc env) R u0:=by
  refine codeAny_loop rfl J (fun n u ju=>?_) n0 eG
  show wpAny _ A ((compTurn (.ListComp elt [⟨tg,iter,ifs,0⟩,⟨tg2,iter2,ifs2,0⟩] scope pos) 0 it acc env).onRaise _) _ _ u;refine wpAny_noted ?_;rw [rO]
  refine wpAny_bind (wpAny_standAt (wpAny_bind (wpAny_mono (turn n u ju) (fun r u1 k1=>?_) fun _ _ z=>z.elim)))
  cases r with
  | none=>exact wpAny_pure (k1.1 rfl)
  | some v=>
    refine wpAny_bind (wpAny_mono (k1.2 v rfl) (fun _ u2 k2=>wpAny_bind (wpAny_mono k2 (fun _ u3 k3=>wpAny_bind (wpAny_mono k3 (fun ok u4 k4=>?_) fun _ _ z=>z.elim)) fun _ _ z=>z.elim)) fun _ _ z=>z.elim)
    cases ok with
    | false=>rw [if_neg Bool.false_ne_true] at k4;exact wpAny_pure ⟨rfl,k4⟩
    | true=>
      rw [if_pos rfl] at k4
      exact k4 _ _ _ fun u6 k6=>wpAny_pure ⟨rfl,k6⟩
theorem tI{elt tg iter tg2 iter2:Expr}{ifs ifs2:List Expr}{scope:Scope}{pos:Pos}{it acc:Value}{env:Env}(J:Nat→Shared→Prop)
    (turn:∀n u,J n u→wpAny (model prog w) A (pyNext it) (fun r u1=>(r=none→R (.ok .next) u1)∧∀v,r=some v→y2 prog w A elt tg2 ifs2 env it acc (fun u2=>∃m,m < n∧J m u2) v u1) wU u){n0:Nat}{u0:Shared}(eG:J n0 u0):
    codeAny (model prog w) A (.compLoop (.ListComp elt [⟨tg,iter,ifs,0⟩,⟨tg2,iter2,ifs2,0⟩] scope pos) 1 it acc env) R u0:=by
  refine codeAny_loop rfl J (fun n u ju=>?_) n0 eG
  show wpAny _ A ((compTurn (.ListComp elt [⟨tg,iter,ifs,0⟩,⟨tg2,iter2,ifs2,0⟩] scope pos) 1 it acc env).onRaise _) _ _ u;refine wpAny_noted ?_;rw [tJ]
  refine wpAny_bind (wpAny_standAt (wpAny_bind (wpAny_mono (turn n u ju) (fun r u1 k1=>?_) fun _ _ z=>z.elim)))
  cases r with
  | none=>exact wpAny_pure (k1.1 rfl)
  | some v=>
    refine wpAny_bind (wpAny_mono (k1.2 v rfl) (fun _ u2 k2=>wpAny_bind (wpAny_mono k2 (fun _ u3 k3=>wpAny_bind (wpAny_mono k3 (fun ok u4 k4=>?_) fun _ _ z=>z.elim)) fun _ _ z=>z.elim)) fun _ _ z=>z.elim)
    cases ok with
    | false=>rw [if_neg Bool.false_ne_true] at k4;exact wpAny_pure ⟨rfl,k4⟩
    | true=>
      rw [if_pos rfl] at k4
      refine wpAny_bind (wpAny_bind (wpAny_mono k4 (fun x u5 k5=>wpAny_bind (wpAny_mono k5 (fun _ u6 k6=>?_) fun _ _ z=>z.elim)) fun _ _ z=>z.elim));exact wpAny_pure (wpAny_pure ⟨rfl,k6⟩)
theorem rM{elt tg iter tg2 iter2:Expr}{ifs ifs2:List Expr}{scope:Scope}{pos:Pos}{it acc:Value}{env:Env}{s:Shared}
    (h0:codeAny (model prog w) A (.compLoop (.ListComp elt [⟨tg,iter,ifs,0⟩,⟨tg2,iter2,ifs2,0⟩] scope pos) 1 it acc env) R s)
    (h:wpAny (model prog w) A (pyIter it) (fun it' s'=>codeAny (model prog w) A (.compLoop (.ListComp elt [⟨tg,iter,ifs,0⟩,⟨tg2,iter2,ifs2,0⟩] scope pos) 1 it' acc env) R s') (notedBy (model prog w) A env fun x s'=>R (.error x) s') s):
    codeAny (model prog w) A (.compStart (.ListComp elt [⟨tg,iter,ifs,0⟩,⟨tg2,iter2,ifs2,0⟩] scope pos) 1 it acc env) R s:=by
  refine codeAny_of_tree ?_;show wpAny _ _ ((compStart (.ListComp elt [⟨tg,iter,ifs,0⟩,⟨tg2,iter2,ifs2,0⟩] scope pos) 1 it acc env).onRaise (fun x=>do noteFrame x env;standAt theWindowsPlace)) _ _ s
  refine wpAny_notedAt ?_;unfold compStart
  show wpAny _ _ (ask >>= _) _ _ s
  refine wpAny_bind (wpAny_askSetting (wpAny_ite ?_));split
  · first | exact wpAny_bind (wpAny_pure (wpAny_pure (And.intro rfl h0))) | exact wpAny_pure (And.intro rfl h0)
  · first | exact wpAny_bind (wpAny_rule (wpAny_bind (wpAny_standAt (wpAny_bind (wpAny_mono h (fun it' s' h'=>wpAny_pure (And.intro rfl h')) fun _ _ x=>x))))) | (refine wpAny_bind (wpAny_rule ?_);show wpAny _ _ (standAt iter2.pos >>= _) _ _ s;exact wpAny_bind (wpAny_standAt (wpAny_bind (wpAny_mono h (fun it' s' h'=>wpAny_pure (And.intro rfl h')) fun _ _ x=>x))))
end
def AV(l:Addr)(wi:TI)(g:TG)(tc:TT)(te:TE)(σ:L2.St)(H:Hp)(N:L2.St→Hp→Prop):Prop:=
  wi σ H fun J H1=>∃W:Nat→Nat→L2.St→Hp→Prop,(∃m,W 0 m σ H1)∧∀i m σ' H',W i m σ' H'→
    (J.stop i H'∧N σ' H')∨(J.go i H'∧∃N2:L2.St→Hp→Prop,(∀σ2 H2,N2 σ2 H2→∃m',m' < m∧W (i+1) m' σ2 H2)∧
      ∀x H2,J.yld i H' x H2→g x σ' H2 fun σ2 H3=>tc σ2 H3 fun b H4=>if b=true then te σ2 H4 fun v H5=>∃ys,H5 l=some (.lst ys)∧ys.length < sizeLine∧N2 σ2 (a_ H5 l (.lst (ys++[v]))) else N2 σ2 H4)
theorem zo{Y:Cx}{elt tg iter tg2 iter2:Expr}{ifs ifs2:List Expr}{scope:Scope}{pos:Pos}{wi:TI}{g:TG}{tc:TT}{te:TE}(hc:Y.calm=true)(hxe:Y.xe=wU)(hi:PI Y tg2 iter2 wi)(hg:PG Y tg2 g)(ht:uO Y ifs2 tc)(he:PE Y elt te)
    (hs:∀x,foldedSetIterable iter2 Y.env x=pure x){pins:List (Addr × Obj)}{s:Shared}{σ:L2.St}{H:Hp}{D:Addr}{N:L2.St→Hp→Prop}(I:aF Y pins σ H s)(h:AV D wi g tc te σ H N)(k:Sem PySem.Fin)(Q:PySem.Fin→Shared→Prop)(E:Value→Shared→Prop)(hk:∀s',(∃σ' H',aF Y pins σ' H' s'∧N σ' H')→wpAny (model Y.prog Y.w) Y.A k Q E s'):
    wpAny (model Y.prog Y.w) Y.A (lM elt tg iter tg2 iter2 ifs ifs2 scope pos (.ref D) Y.env k) Q E s:=by
  unfold lM
  have hi':=hi pins s σ H _ I h
  rw [hxe] at hi'
  refine wpAny_bind (wpAny_mono hi' (fun v s1 h1=>wpAny_bind (wpAny_standAt (wpAny_bind (wpAny_of_eq (hs v) (wpAny_bind (wpAny_holding (wpAny_mono h1 (fun itv s2 h2=>?_) fun _ _ z=>z.elim))))))) fun _ _ z=>z.elim)
  obtain⟨it,fp,tn,J,H2,rfl,I2,T,st2,f2,W,⟨m0,w0⟩,turn⟩:=h2
  have stat:∀{H':Hp},(∀b∈fp,H' b=none)→∀b∈fp,f_ Y pins H' b:=fun hn b hb=>⟨hn b hb,(f2 b hb).2⟩
  have loop:codeAny (model Y.prog Y.w) Y.A (.compLoop (.ListComp elt [⟨tg,iter,ifs,0⟩,⟨tg2,iter2,ifs2,0⟩] scope pos) 1 (.ref it) (.ref D) Y.env) (fun r s'=>match r with | .ok f=>wpAny (model Y.prog Y.w) Y.A k Q E s' | .error e=>cameBackBy (model Y.prog Y.w) Y.A Y.env E e s') s2:=by
    refine tI (fun n s'=>∃i σ' H',aF Y pins σ' H' s'∧tn i s'.heap∧(∀b∈fp,H' b=none)∧W i n σ' H') ?_ (n0:=m0) ⟨0,σ,H2,I2,st2,fun b hb=>(f2 b hb).1,w0⟩
    rintro n s3 ⟨i,σ3,H3,I3,st3,fr3,w3⟩
    rcases turn i n σ3 H3 w3 with ⟨stop,qn⟩ | ⟨go,N2,hN,step⟩
    · refine bS (T.done Y rfl rfl rfl hc i pins s3 σ3 H3 wU I3 (stat fr3) st3 stop) fun r s4 ⟨hr,I4⟩=>?_
      subst hr
      exact⟨fun _=>hk _ ⟨σ3,H3,I4,qn⟩,fun v z=>by cases z⟩
    · refine bS (T.item Y rfl rfl rfl hc i pins s3 σ3 H3 wU I3 (stat fr3) st3 go) fun r s4 ⟨u,hr,h4⟩=>?_
      subst hr
      refine⟨fun z=>(by cases z),fun v z=>?_⟩
      cases z
      refine bS h4 fun _ s5 ⟨x,H5,I5,r5,y5,st5,fr5⟩=>?_
      have I5':=I5.pinned (stat fr5) (T.obj _ _ st5)
      have again:∀{σ8:L2.St} {H8:Hp} {s8:Shared},aF Y (pins++jS fp s5.heap) σ8 H8 s8→N2 σ8 H8→∃m,m < n∧∃i σ' H',aF Y pins σ' H' s8∧tn i s8.heap∧(∀b∈fp,H' b=none)∧W i m σ' H':=fun{σ8 H8 s8} I8 n8=>by
        obtain⟨m',hm,w8⟩:=hN σ8 H8 n8
        refine⟨m',hm,i+1,σ8,H8,I8.unpinned,T.keep _ _ _ st5 fun b hb o e=>(I8.pin (b,o) (List.mem_append_right _ (List.mem_append_right _ (bW hb e)))).1,fun b hb=>?_,w8⟩
        obtain⟨o,e,d⟩:=T.obj _ _ st5 b hb
        exact(I8.pin (b,o) (List.mem_append_right _ (List.mem_append_right _ (bW hb e)))).2.1
      have hg':=hg _ s5 σ3 H5 x u _ I5' r5 (step x H5 y5)
      rw [hxe] at hg'
      refine bS hg' fun _ s8 ⟨σ8,H8,I8,q8⟩=>?_
      have ht':=ht _ s8 σ8 H8 _ I8 q8
      rw [hxe] at ht'
      refine bS ht' fun ok s9 ⟨H9,I9,q9⟩=>?_
      cases ok with
      | false=>
        rw [if_neg Bool.false_ne_true] at q9 ⊢
        exact again I9 q9
      | true=>
        rw [if_pos rfl] at q9 ⊢
        have he':=he _ s9 σ8 H9 _ I9 q9
        rw [hxe] at he'
        refine bS he' fun v s10 ⟨xv,H10,I10,r10,ys,hl,hz,n10⟩=>?_
        have ha:=iS _ s10 σ8 H10 (.ref D) [xv] (.ref D) [v] (fun _ H=>N2 σ8 H) I10 rfl (.cons r10 .nil) ⟨D,ys,xv,rfl,rfl,hl,hz,n10⟩
        rw [hxe] at ha
        refine bS ha fun _ s11 ⟨_,H11,I11,_,q11⟩=>?_
        exact again I11 q11
  exact wpAny_bind (wpAny_runOwn (rM loop (T.self Y.A 0 _ _ _ st2 loop)))
structure vO (cp:List (Nat × Str)) (nT:Nat) (wi:TI) (g:TG) (tc:TT) (wi2:TI) (g2:TG) (tc2:TT) (te:TE) (σ:L2.St) (H:Hp) (Q:VK):Prop where
  go:wi σ H fun J H1=>∀l,H1 l=none→
  ∃W:Nat→Nat→L2.St→Hp→Prop,(∃m,W 0 m (dU cp nT σ) (a_ H1 l (.lst [])))∧∀i m σ' H',W i m σ' H'→
    (J.stop i H'∧Q (.ref l) H')∨(J.go i H'∧∃N:L2.St→Hp→Prop,(∀σ2 H2,N σ2 H2→∃m',m' < m∧W (i+1) m' σ2 H2)∧
      ∀x H2,J.yld i H' x H2→g x σ' H2 fun σ2 H3=>tc σ2 H3 fun b H4=>if b=true then AV l wi2 g2 tc2 te σ2 H4 N else N σ2 H4)
def jE(g:FG)(ft:FT)(fi2:FI)(g2:FG)(ft2:FT)(fe:FE):List PyData→En→List PyData→Option (List PyData × En)
  | [],e,acc=>some (acc,e)
  | x::r,e,acc=>(g x e).bind fun e1=>(ft e1).bind fun b=>if b.1=true then(fi2 b.2).bind fun p=>if p.2.1=[] then(cF g2 ft2 fe p.1 p.2.2 acc).bind fun z=>jE g ft fi2 g2 ft2 fe r z.2 z.1 else none else jE g ft fi2 g2 ft2 fe r b.2 acc
def mT(cp:List (Nat × Str))(nT:Nat)(fi:FI)(g:FG)(ft:FT)(fi2:FI)(g2:FG)(ft2:FT)(fe:FE):FE:=fun e=>(fi e).bind fun p=>if (p.2.1.all fun q=> !(cp.any fun c=>c.1==q.1))=true then(jE g ft fi2 g2 ft2 fe p.1 (mC cp nT p.2.2) []).bind fun z=>if gD cp z.2 p.2.2=true then some (.l z.1,mj (lV cp) z.2 p.2.2) else none else none
section
variable{K:⇑0}{F H:Hp}{σ:L2.St}{e:En}{cp:List (Nat × Str)}{nT:Nat}
theorem yt{Q:VK}{fi fi2:FI}{g g2:FG}{W:List Nat}{ft ft2:FT}{fe:FE}(hn:(cp.map (·.1)).Nodup)(hW:∀j∈W,cp.length≤j)(h:fE K (mT cp nT fi g ft fi2 g2 ft2 fe) σ H Q):vO cp nT (fI K fi) (fG K g W) (fT K ft) (fI K fi2) (fG K g2 W) (fT K ft2) (fE K fe) σ H Q:=by
  obtain⟨F0,e0,z,e',R0,hf,q⟩:=h
  unfold mT at hf
  obtain⟨⟨items,own,e1⟩,h1,hf⟩:=LD hf
  dsimp only at hf
  split at hf
  case isFalse=>cases hf
  case isTrue hO=>
  obtain⟨⟨out,eo⟩,h2,hf⟩:=LD hf
  dsimp only at hf
  split at hf
  case isFalse=>cases hf
  case isTrue hB=>
  cases hf
  refine⟨⟨F0,e0,items,own,e1,R0,h1,fun J F1 H1 X1 R1 kp ok=>?_⟩⟩
  intro l hl
  obtain⟨Ri,sub⟩:=R1.inn (nT:=nT) hn
  have hFl:F1 l=none:=R1.freeF hl
  let Iv:Nat→L2.St→Hp→Prop:=fun i=>CI K W (dU cp nT σ) F1 H1 (mC cp nT e1) l fun _ ei acc=>jE g ft fi2 g2 ft2 fe (items.drop i) ei acc=some (out,eo)
  have notown:∀p∈own,∀a,σ[p.1]?=some (some (.ref a))→¬cn (dU cp nT σ) (mC cp nT e1) H1 a:=by
    rintro p hp a ha ⟨k,zf⟩
    obtain⟨xs,c1,c2⟩:=zf.resolve_right fun⟨xss,_,_,z,_⟩=>jc k xss z
    obtain⟨i,s,d1,d2⟩:=jb c1
    have e2:=mf d1 c2
    have:p.1=i:=R1.inj p.1 i p.2 xs a (kp p hp) d2 ha e2
    have hh:=List.all_eq_true.mp hO p hp
    simp only [Bool.not_eq_true',List.any_eq_false,beq_iff_eq] at hh
    exact hh (i,s) (LK d1) this.symm
  refine⟨fun i m σ' H'=>m=items.length - i∧i≤items.length∧Iv i σ' H',⟨items.length,by simp,Nat.zero_le _,.mk (Ri.putT hFl (fun z=>(Ri.ownH l z) hl)).1 (dk.refl.putT hl (Ri.putT hFl (fun z=>(Ri.ownH l z) hl)).2) hFl (fun z=>(Ri.ownH l (((Ri.putT hFl (fun z=>(Ri.ownH l z) hl)).2 l).mp z)) hl) az aR.nil h2⟩,?_⟩
  rintro i m σ' H' ⟨rfl,hi,⟨R',X',fl,no,hl',da,hc⟩⟩
  rename_i F' ei acc vs
  have held:xD K σ F' H' own:=fun p hp=>by
    obtain⟨a,us,c1,c2,c3,c4⟩:=R1.own p.1 p.2 (kp p hp)
    exact⟨a,us,c1,X'.tmp a _ c3 (notown p hp a c1),c4.mono X'.sf⟩
  obtain⟨go,stop,yld⟩:=ok F' H' X'.sf R'.sm held
  by_cases hlt:i < items.length
  · have hd:items.drop i=items[i]::items.drop (i+1):=List.drop_eq_getElem_cons hlt
    rw [hd] at hc
    unfold jE at hc
    obtain⟨e2,c2,hc⟩:=LD hc
    obtain⟨⟨b,e3⟩,c3,hc⟩:=LD hc
    refine .inr ⟨go i hlt,Iv (i+1),fun σ2 H2 r=>⟨items.length - (i+1),by lia,rfl,hlt,r⟩,fun x H2 hy=>?_⟩
    obtain⟨F2,sH,sF2,sm2,fz,hx⟩:=yld i items[i] x H2 (List.getElem?_eq_getElem hlt) hy
    obtain⟨R2,X2⟩:=R'.step sH sF2 sm2 fz
    refine⟨F2,ei,items[i],e2,R2,hx,c2,fun σ3 X3 R3=>⟨F2,e2,b,e3,R3,c3,fun F4 H4 X4 R4=>?_⟩⟩
    have hlH2:H2 l=some (.lst vs):=sH _ _ hl'
    have no2:¬cn σ' ei H2 l:=fun z=>by
      rcases X2.ow l z with z | z
      · exact no z
      · rw [hl'] at z;cases z
    have no3:¬cn σ3 e2 H2 l:=fun z=>by
      rcases X3.own l z with z | z
      · exact no2 z
      · rw [hlH2] at z;cases z
    have fl2:F2 l=none:=fz l fl (by rw [hl'];simp)
    have hlH4:H4 l=some (.lst vs):=X4.tmp l _ hlH2 no3
    have fl4:F4 l=none:=X4.fr l vs fl2 hlH2 no3
    have no4:¬cn σ3 e3 H4 l:=fun z=>by
      rcases X4.ow l z with z | z
      · exact no3 z
      · rw [hlH2] at z;cases z
    have E4:dk W (dU cp nT σ) F1 H1 (mC cp nT e1) σ3 F4 H4 e3:=((X'.trans X2.s).trans X3).trans X4.s
    have da4:=da.mono (sF2.trans X4.sf)
    cases b with
    | false=>
      rw [if_neg ↥1] at hc
      exact xT (.mk R4 E4 fl4 no4 hlH4 da4 hc)
    | true=>
      rw [if_pos rfl] at hc
      obtain⟨⟨its2,own2,e5⟩,c5,hc⟩:=LD hc
      dsimp only at hc
      split at hc
      case isFalse=>cases hc
      case isTrue ho2=>
      subst ho2
      obtain⟨⟨acc2,e6⟩,c6,hc⟩:=LD hc
      refine zq ⟨F4,e3,its2,[],e5,R4,c5,fun J2 F5 H5 X5 R5 _ ok2=>?_⟩
      have hlH5:H5 l=some (.lst vs):=X5.tmp l _ hlH4 no4
      have fl5:F5 l=none:=X5.fr l vs fl4 hlH4 no4
      have no5:¬cn σ3 e5 H5 l:=fun z=>by
        rcases X5.ow l z with z | z
        · exact no4 z
        · rw [hlH4] at z;cases z
      let Iv2:Nat→L2.St→Hp→Prop:=fun j=>CI K W (dU cp nT σ) F1 H1 (mC cp nT e1) l fun F' ei acc=>aC F5 F'∧cF g2 ft2 fe (its2.drop j) ei acc=some (acc2,e6)
      refine⟨fun j m σ' H'=>m=its2.length - j∧j≤its2.length∧Iv2 j σ' H',⟨its2.length,by simp,Nat.zero_le _,.mk R5 (E4.trans X5.s) fl5 no5 hlH5 (da4.mono X5.sf) ⟨aC.refl _,c6⟩⟩,?_⟩
      rintro j m σ6 H6 ⟨rfl,hj,⟨R6,X6,fl6,no6,hl6,da6,s6,hc6⟩⟩
      rename_i F6 ei6 acc6 vs6
      obtain⟨go2,stop2,yld2⟩:=ok2 F6 H6 s6 R6.sm (fun p hp=>by cases hp)
      by_cases hjt:j < its2.length
      · have hd2:its2.drop j=its2[j]::its2.drop (j+1):=List.drop_eq_getElem_cons hjt
        rw [hd2] at hc6
        unfold cF at hc6
        obtain⟨e7,c7,hc6⟩:=LD hc6
        obtain⟨⟨b8,e8⟩,c8,hc6⟩:=LD hc6
        refine .inr ⟨go2 j hjt,Iv2 (j+1),fun σ2 H2 r=>⟨its2.length - (j+1),by lia,rfl,hjt,r⟩,fun x7 H7 hy7=>?_⟩
        obtain⟨F7,sH7,sF7,sm7,fz7,hx7⟩:=yld2 j its2[j] x7 H7 (List.getElem?_eq_getElem hjt) hy7
        obtain⟨R7,X7⟩:=R6.step sH7 sF7 sm7 fz7
        refine⟨F7,ei6,its2[j],e7,R7,hx7,c7,fun σ8 X8 R8=>⟨F7,e7,b8,e8,R8,c8,fun F9 H9 X9 R9=>?_⟩⟩
        have hlH7:H7 l=some (.lst vs6):=sH7 _ _ hl6
        have no7:¬cn σ6 ei6 H7 l:=fun z=>by
          rcases X7.ow l z with z | z
          · exact no6 z
          · rw [hl6] at z;cases z
        have no8:¬cn σ8 e7 H7 l:=fun z=>by
          rcases X8.own l z with z | z
          · exact no7 z
          · rw [hlH7] at z;cases z
        have fl7:F7 l=none:=fz7 l fl6 (by rw [hl6];simp)
        have hlH9:H9 l=some (.lst vs6):=X9.tmp l _ hlH7 no8
        have fl9:F9 l=none:=X9.fr l vs6 fl7 hlH7 no8
        have no9:¬cn σ8 e8 H9 l:=fun z=>by
          rcases X9.ow l z with z | z
          · exact no8 z
          · rw [hlH7] at z;cases z
        have E9:dk W (dU cp nT σ) F1 H1 (mC cp nT e1) σ8 F9 H9 e8:=((X6.trans X7.s).trans X8).trans X9.s
        have s9:aC F5 F9:=(s6.trans sF7).trans X9.sf
        cases b8 with
        | false=>
          rw [if_neg ↥1] at hc6
          exact xT (.mk R9 E9 fl9 no9 hlH9 (da6.mono (sF7.trans X9.sf)) ⟨s9,hc6⟩)
        | true=>
          rw [if_pos rfl] at hc6
          obtain⟨⟨r,e10⟩,c10,hc6⟩:=LD hc6
          obtain⟨d,c11,hc6⟩:=LD hc6
          split at hc6
          case isFalse=>cases hc6
          case isTrue hlen=>
          refine zq ⟨F9,e8,r,e10,R9,c10,fun Fa Ha v Xa Ra Aa=>?_⟩
          have hlHa:Ha l=some (.lst vs6):=Xa.tmp l _ hlH9 no9
          have fla:Fa l=none:=Xa.fr l vs6 fl9 hlH9 no9
          have noa:¬cn σ8 e10 Ha l:=fun z=>by
            rcases Xa.ow l z with z | z
            · exact no9 z
            · rw [hlH9] at z;cases z
          obtain⟨Fb,Rb,sb,db,fb⟩:=b_.frozen Ra (rs:=[r]) (vs:=[v]) ⟨v,[],rfl,Aa,rfl⟩ (j4 c11)
          have flb:Fb l=none:=fb l fla (by rw [hlH9];simp)
          have Xb:=Xa.frz sb fb
          have ll:=da6.len
          have sl:sizeLine=16777216:=sizeLine_eq
          have dv:DA K Fb d v:=by
            simp only [aR] at db
            obtain⟨v',r',e',hv,_⟩:=db
            cases e';exact hv
          obtain⟨Rc,oc⟩:=Rb.putT (ws:=vs6++[v]) flb noa
          exact⟨vs6,hlHa,by lia,.mk Rc ((E9.trans Xb.s).putT hl oc) flb (fun z=>noa ((oc l).mp z)) az ((da6.mono (sF7.trans (X9.sf.trans (Xa.sf.trans sb)))).append (aR.one dv)) ⟨s9.trans (Xa.sf.trans sb),hc6⟩⟩
      · have hd2:its2.drop j=[]:=List.drop_eq_nil_of_le ↥0
        rw [hd2] at hc6
        cases hc6
        exact .inl ⟨stop2 j ↥0,.mk R6 X6 fl6 no6 hl6 da6 hc⟩
  · have hd:items.drop i=[]:=List.drop_eq_nil_of_le ↥0
    rw [hd] at hc
    cases hc
    refine .inl ⟨stop i ↥0,?_⟩
    obtain⟨R9,X9,o9⟩:=pT R1 sub jc X'.sf X'.dom X'.fr X'.lst X'.tmp X'.fd R' (fun i k xs g1 g2=>X'.wr k fun z=>by
      obtain⟨s,g⟩:=dP g2
      have:=(LG g).1
      have:=hW k z
      lia) fun i k xs g1 g2=>by
        obtain⟨s,g⟩:=dP g2
        unfold gD at hB
        have hb:=List.all_eq_true.mp hB _ (LK g)
        simp only [g1,g2,Option.getD_some,vf,Bool.not_true,Bool.false_or] at hb
        exact wJ.mp hb
    exact q F' H' (.ref l) (X1.trans X9) R9 ⟨l,vs,rfl,X1.dom l hl,fl,hl',da,fun z=>R1.ownH l (o9 l z) hl⟩
end
theorem PG.wide{X:Cx}{K:⇑0}{tg:Expr}{g:FG}{W W':List Nat}(h:PG X tg (fG K g W))(hw:∀j,j∈W→j∈W'):PG X tg (fG K g W'):=h.mono fun v σ H Q ⟨F,e,x,e',R,d,hg,q⟩=>⟨F,e,x,e',R,d,hg,fun σ' x=>q σ' (x.mono hw)⟩
section
variable{X:Cx}{K:⇑0}{pos:Pos}
end
theorem uf{X:Cx}{ix:Nat}{nm:Str}{posn poss:Pos}{elt iter tg iter2 tg2:Expr}{ifs ifs2:List Expr}{scope:Scope}{pos:Pos}{wi wi2:TI}{g g2:TG}{tc tc2:TT}{te:TE}(sc0:Scope)(N0:List Str)(cp:List (Nat × Str))(tgN:List Str)
    (hc:X.calm=true)(hsc:X.env.scope=sc0)(hN0:X.N=N0)(hi:PI X tg iter wi)
    (hg:∀C s0 H0 fp,PG (av X scope cp tgN C s0 H0 fp) tg g)
    (ht:∀C s0 H0 fp,uO (av X scope cp tgN C s0 H0 fp) ifs tc)
    (hi2:∀C s0 H0 fp,PI (av X scope cp tgN C s0 H0 fp) tg2 iter2 wi2)
    (hg2:∀C s0 H0 fp,PG (av X scope cp tgN C s0 H0 fp) tg2 g2)
    (ht2:∀C s0 H0 fp,uO (av X scope cp tgN C s0 H0 fp) ifs2 tc2)
    (he:∀C s0 H0 fp,PE (av X scope cp tgN C s0 H0 fp) elt te)
    (hk:scope.kind=.function)(hcell:∀y∈scope.names,y.2≠.cell)(hnames:∀y∈scope.names,y.2=.local→scope.names.lookup y.1=some .local)
    (hfr:∀y∈scope.names,y.2=.free→scope.names.lookup y.1=some .free∧sc0.names.lookup y.1=some .cell)
    (hcp:∀p∈cp,N0[p.1]?=some p.2)(hcq:∀p∈cp,sc0.names.lookup p.2=some .cell∧scope.names.lookup p.2=some .free)
    (hNd:X.N.Nodup)(hix:X.N[ix]?=some nm)(hlc:X.env.scope.names.lookup nm=some .local)(hsw:swapsWith (.ListComp elt [⟨tg,iter,ifs,0⟩,⟨tg2,iter2,ifs2,0⟩] scope pos) (some (.Name nm posn)) poss.line X.env=pure true)
    (hs2:∀C s0 H0 fp x,foldedSetIterable iter2 (av X scope cp tgN C s0 H0 fp).env x=pure x)(hs:∀x,foldedSetIterable iter X.env x=pure x:=by intro _;rfl):
    PS X (.Assign [.Name nm posn] (.ListComp elt [⟨tg,iter,ifs,0⟩,⟨tg2,iter2,ifs2,0⟩] scope pos) poss) (Cs (vO cp tgN.length wi g tc wi2 g2 tc2 te) (wG ix)):=by
  intro pins s σ H D0 I h
  let Q:VK:=fun x H1=>D0.nx (σ.set ix (some x)) H1
  have h:vO cp tgN.length wi g tc wi2 g2 tc2 te σ H Q:=h
  have hkind:∀x,X.env.kindOf x=sc0.names.lookup x:=fun x=>by unfold Env.kindOf;rw [hsc]
  have hfree:∀y∈scope.names,y.2=.free→∃c,X.env.cells.lookup y.1=some c:=fun y hy e=>I.ok.has y.1 (.inl (by rw [hkind];exact(hfr y hy e).2))
  rw [exec_Assign_Name_used _ _ _ _ hsw]
  refine wpAny_bind (wpAny_standAt (wpAny_bind ?_))
  unfold evalThenUse
  refine wpAny_bind ?_
  refine wpAny_comprehension_free (use:=some (assign (.Name nm posn) X.env)) rfl hs (kS hfree) hk hnames (wpAny_mono (hi pins s σ H _ I h.go) (fun xv s₁ h₁=>wpAny_mono h₁ (fun itv s₂ h₂=>?_) fun _ _ e=>e) fun _ _ e=>e)
  obtain⟨it,fp,tn,J,H2,rfl,I2,T,st2,f2,hq⟩:=h₂
  refine wpAny_newObj_type ?_
  have hlF:H2 ↑s₂=none:=I2.hok.fresh ↥8
  have I3:aF X pins σ (a_ H2 ↑s₂ (.lst [])) {s₂ with heap:=s₂.heap.push {cls:=.type "list",data:=.seq ([]:List Value).toArray}}:=I2.lnew (t':=s₂.toks) .nil (Nat.zero_le _)
  obtain⟨W,⟨m0,w0⟩,turn⟩:=hq _ hlF
  have f3:∀b∈fp,f_ X pins (a_ H2 ↑s₂ (.lst [])) b:=fun b hb=>by
    obtain⟨f0,fr⟩:=f2 b hb
    obtain⟨o,ho,_⟩:=T.obj _ _ st2 b hb
    exact⟨by rw [ar (Nat.ne_of_lt (Heap.lt_size ho))];exact f0,fr⟩
  have st3:tn 0 (s₂.heap.push {cls:=.type "list",data:=.seq ([]:List Value).toArray}):=T.keep _ _ _ st2 fun b _ o e=>Heap.get?_push_of_some _ e
  generalize hD:↑s₂=D at*
  generalize hs3:({s₂ with heap:=s₂.heap.push {cls:=.type "list",data:=.seq ([]:List Value).toArray}}:Shared)=s₃ at*
  have hst3:tn 0 s₃.heap:=by rw [←hs3];exact st3
  refine wpAny_newFunctionEnv hcell (by intro y hy;simp at hy) (fun h₁ hns₁ hsb₁=>?_) hk
  generalize hC:↑s₃=C at*
  have old:∀b o,s₃.heap.get? b=some o→h₁.get? b=some o:=fun b o e=>hsb₁.extBut b o (by rw [←hC];exact Nat.ne_of_lt (Heap.lt_size e)) (Heap.get?_push_of_some _ e)
  have nC:∀b o,s₃.heap.get? b=some o→b≠C:=fun b o e=>by rw [←hC];exact Nat.ne_of_lt (Heap.lt_size e)
  have hHC:(a_ H2 D (.lst [])) C=none:=I3.hok.fresh (by rw [hC];exact Nat.le_refl _)
  have clS:∀x c,(gG X.env scope.names []).lookup x=some c→X.env.cells.lookup x=some c:=fun x c e=>i8 _ _ x c hfree (fun _ _ z=>by simp at z) e
  have clH:∀x,(∃y∈scope.names,y.1=x∧y.2=.free)→∃c,(gG X.env scope.names []).lookup x=some c:=fun x e=>lD _ _ x (.inl e)
  have ok':(av X scope cp tgN C s₃ (a_ H2 D (.lst [])) fp).Ok:=by
    refine⟨I.ok.mod,hk,I.ok.glob,I.ok.blt,by rw [←hC];exact Nat.le_refl _,fun x y c e1 e2=>I.ok.inj x y c (clS _ _ e1) (clS _ _ e2),fun x e=>clH x (cz hcell e),fun x c e1 e2=>?_,I.ok.hd,I.ok.frames,.inl rfl,fun b hb=>?_,fun b o e=>I3.bs b o e,?_,fun b o e hb=>?_,fun b hb z=>?_,I3.stack,fun b hb=>I3.stkFree b hb⟩
    · exfalso
      have e1':scope.names.lookup x=some .local:=by simpa [av] using e1
      have e2':=clS x c e2
      obtain⟨c',hc'⟩:∃y∈scope.names,y.1=x∧y.2=.free:=by
        by_cases q:∃y∈scope.names,y.1=x∧y.2=.free
        · exact q
        · exfalso
          have:∀(names:List (Str × NameKind)) (cs:List (Str × Addr)),(¬∃y∈names,y.1=x∧y.2=.free)→cs.lookup x=none→(gG X.env names cs).lookup x=none:=by
            intro names
            induction names with
            | nil=>intro cs _ h;exact h
            | cons y r ih=>
              intro cs hn hcs
              obtain⟨n,k⟩:=y
              refine ih _ (fun⟨y,hy,z⟩=>hn ⟨y,List.mem_cons_of_mem _ hy,z⟩) ?_
              by_cases hk:(k==NameKind.free)=true
              · rw [if_pos hk,List.lookup_cons]
                cases hx:x==n with
                | true=>exact absurd ⟨(n,k),List.mem_cons_self,(by simpa using hx:x=n).symm,by simpa using hk⟩ hn
                | false=>exact hcs
              · rw [if_neg hk];exact hcs
          have z:=this scope.names [] q rfl
          have e2'':(gG X.env scope.names []).lookup x=some c:=e2
          rw [z] at e2'';cases e2''
      have z:=(hfr c' hc'.1 hc'.2.2).1
      rw [hc'.2.1,e1'] at z;cases z
    · obtain⟨f0,f1,f4,f5,f6,f7⟩:=f3 b hb
      obtain⟨o,ho,_⟩:=T.obj _ _ hst3 b hb
      exact⟨nC b o ho,fun x c e=>f6 x c (clS x c e)⟩
    · exact Nat.le_trans I.ok.bsz I3.sz
    · obtain⟨f0,f1,f4,f5,f6,f7⟩:=f3 b hb
      rcases f5 with z | z
      · exact I.ok.noex b o e z
      · have:=(I.ok.bs b o e).1
        exact absurd (Nat.lt_of_lt_of_le (Heap.lt_size this) z) (Nat.lt_irrefl _)
    · obtain⟨f0,f1,f4,f5,f6,f7⟩:=f3 b hb
      rcases LJ (I3.stkSub b z) with z | z
      · exact f1 z
      · exact f4 z
  have I4:aF (av X scope cp tgN C s₃ (a_ H2 D (.lst [])) fp) [] (dU cp tgN.length σ) (a_ H2 D (.lst [])) {s₃ with heap:=h₁,toks:=s₃.toks+([]:List (Str × Value)).length}:=by
    refine⟨ok',rfl,I3.bare,Un.kept old,⟨_,hns₁,fun i x v e1 e2 e3=>?_⟩,fun x c e=>?_,hHC,fun x c e=>I3.freeC x c (clS x c e),fun p hp=>by simp [av] at hp,I3.hok.kept old,by simp [dU,av]⟩
    · have hlt:i < cp.length:=by
        by_cases q:i < cp.length
        · exact q
        · exfalso
          unfold dU at e2
          rw [List.getElem?_append_right ↥7] at e2
          rw [List.getElem?_replicate] at e2
          split at e2<;>cases e2
      have e1':(cp.map (·.2))[i]?=some x:=by
        have e1'':(cp.map (·.2)++tgN)[i]?=some x:=e1
        rwa [List.getElem?_append_left (by simp;exact hlt)] at e1''
      have e2':(cp.map (fun p=>(σ[p.1]?).join))[i]?=some (some v):=by
        unfold dU at e2
        rwa [List.getElem?_append_left (by simp;exact hlt)] at e2
      rw [List.getElem?_map,List.getElem?_eq_getElem hlt] at e1' e2'
      have ex:(cp[i]).2=x:=by simpa using e1'
      have ev:(σ[(cp[i]).1]?).join=some v:=by simpa using e2'
      have ev':σ[(cp[i]).1]?=some (some v):=by
        cases q:σ[(cp[i]).1]? with
        | none=>rw [q] at ev;cases ev
        | some z=>rw [q] at ev;simp only [Option.join_some] at ev;rw [ev]
      have hN:=hcp cp[i] (List.getElem_mem hlt)
      rw [←hN0] at hN
      obtain⟨hcl,hcf⟩:=hcq cp[i] (List.getElem_mem hlt)
      rw [ex] at hN hcl hcf
      obtain⟨m,hn,hl⟩:=I3.loc
      obtain⟨u,r,l⟩:=hl _ x v hN ev' (.inr (.inl (by rw [hsc];exact hcl)))
      refine⟨u,r,.inr ?_⟩
      rcases l with ⟨k1,_⟩ | ⟨k1,c,hcc,o,ho,hd⟩
      · rw [hkind,hcl] at k1;cases k1
      · have e3':(relabel scope X.env).names.lookup x=some .local∨(relabel scope X.env).names.lookup x=some .cell∨(relabel scope X.env).names.lookup x=some .free:=e3
        have nl:(relabel scope X.env).names.lookup x=some .cell∨(relabel scope X.env).names.lookup x=some .free:=by
          rcases e3' with z | z | z
          · exact absurd z (dw hcf)
          · exact .inl z
          · exact .inr z
        obtain⟨c',hc'⟩:=clH x (cz hcell nl)
        have:=clS x c' hc'
        rw [hcc] at this;cases this
        exact⟨nl,c,hc',o,old c o ho,hd⟩
    · obtain⟨v,o,ho,hd⟩:=I3.cell x c (clS x c e)
      exact⟨v,o,old c o ho,hd⟩
  have hst4:tn 0 h₁:=T.keep _ _ _ hst3 fun b _ o e=>old b o e
  have loop:codeAny (model X.prog X.w) X.A (.compLoop (.ListComp elt [⟨tg,iter,ifs,0⟩,⟨tg2,iter2,ifs2,0⟩] scope pos) 0 (.ref it) (.ref D) (compEnvC scope (gG X.env scope.names []) C X.env))
      (compPost (model X.prog X.w) X.A X.xe (some (assign (.Name nm posn) X.env)) (fun _ s'=>wpAny (model X.prog X.w) X.A (pure ()) (fun _ s''=>wpAny (model X.prog X.w) X.A (pure Flow.next) (SP X pins D0) X.xe s'') X.xe s') (.ref D) C) {s₃ with heap:=h₁,toks:=s₃.toks+([]:List (Str × Value)).length}:=by
    refine rL (fun n s'=>∃i σ' H',aF (av X scope cp tgN C s₃ (a_ H2 D (.lst [])) fp) [] σ' H' s'∧tn i s'.heap∧(∀b∈fp,H' b=none)∧W i n σ' H') ?_ (n0:=m0) ⟨0,_,_,I4,hst4,fun b hb=>(f3 b hb).1,w0⟩
    rintro n s5 ⟨i,σ5,H5,I5,st5,fr5,w5⟩
    have stat:∀{H':Hp},(∀b∈fp,H' b=none)→∀b∈fp,f_ (av X scope cp tgN C s₃ (a_ H2 D (.lst [])) fp) [] H' b:=fun hn b hb=>
      ⟨hn b hb,(ok'.exf b hb).1,ok'.exfs b hb,.inl hb,(ok'.exf b hb).2,fun p hp=>by simp [av] at hp⟩
    rcases turn i n σ5 H5 w5 with ⟨stop,qn⟩ | ⟨go,N,hN,step⟩
    · refine bS (T.done (av X scope cp tgN C s₃ (a_ H2 D (.lst [])) fp) rfl rfl rfl hc i [] s5 σ5 H5 (fun _ _=>False) I5 (stat fr5) st5 stop) fun r s6 ⟨hr,I6⟩=>?_
      subst hr
      refine⟨fun _=>?_,fun v z=>by cases z⟩
      obtain⟨m,hn,_⟩:=I6.loc
      have I7:aF X pins σ H5 s6:=by
        have key:∀h':Heap,Heap.SameBut C s6.heap h'→aF X pins σ H5 {s6 with heap:=h'}:=fun h' sb=>by
          have ub:=I6.base
          have kp:∀b u,b≠C→s6.heap.get? b=some u→h'.get? b=some u:=fun b u ne e=>sb.extBut b u ne e
          have nit:∀b u,H5 b=some u→b≠C:=fun b u e z=>by
            have:=I6.free
            rw [z] at e
            rw [show H5 C=none from this] at e;cases e
          refine I3.call' (s':={s6 with heap:=h'}) (ch:=fp) I6.os ⟨fun b o e n hb hx=>kp b o (nC b o e) (ub.keep b o e n hb hx),fun b o e n hb hx=>?_,ub.free,fun b o e hx=>?_,ub.tups,ub.frzs,ub.tbls⟩ (fun b u e=>?_) I6.bare (fun b hb=>?_)
          · obtain⟨sl,q⟩:=ub.slot b o e n hb hx
            exact⟨sl,kp b _ (nC b o e) q⟩
          · obtain⟨o',q⟩:=ub.there b o e hx
            exact⟨o',kp b _ (nC b o e) q⟩
          · refine(I6.hok b u e).stay (fun c v hc q=>kp c v ?_ q) (fun _ q=>q) fun _ _ q=>q
            rcases hc with z | z
            · rw [z];exact nit b u e
            · exact nit c _ z
          · obtain⟨f0,f1,f4,f5,f6,f7⟩:=f3 b hb
            exact⟨f5,f1,f6,f7⟩
        exact key s6.heap ⟨rfl,fun _ _=>rfl⟩
      have fC:f_ X pins H5 C:=I3.fpOk (by rw [hC];exact Nat.le_refl _) I6.free
      show wpAny (model X.prog X.w) X.A (assign (.Name nm posn) X.env (.ref D)) _ X.xe s6
      refine wpAny_assign_Name (mR (v:=.ref D) I7 hNd hix (Or.inl hlc) rfl (fun s' I' hsb=>?_) (Or.inr hlc))
      obtain⟨a,sb,ha⟩:=hsb
      have nCa:C≠a:=by
        rcases ha with z | z
        · rw [z];exact fC.2.1
        · exact fun e=>fC.2.2.2.2.1 _ _ z e.symm
      obtain⟨oN,esN,epN,hoN,rN⟩:=hn
      refine⟨m,⟨oN,esN,epN,(sb.2 C nCa).trans hoN,rN⟩,fun h' sb'=>wpAny_pure (wpAny_pure ?_)⟩
      have I8:aF X pins (σ.set ix (some (.ref D))) H5 {s' with heap:=h',toks:=s'.toks}:=I'.turnedL (t':=s'.toks) (fp:=[C]) (fun b hb=>by rw [List.mem_singleton.mp hb];exact fC) fun b o nb e=>sb'.extBut b o (by simpa using nb) e
      exact⟨_,H5,I8,qn⟩
    · refine bS (T.item (av X scope cp tgN C s₃ (a_ H2 D (.lst [])) fp) rfl rfl rfl hc i [] s5 σ5 H5 (fun _ _=>False) I5 (stat fr5) st5 go) fun r s6 ⟨u,hr,h6⟩=>?_
      subst hr
      refine⟨fun z=>(by cases z),fun v z=>?_⟩
      cases z
      refine bS h6 fun _ s7 ⟨x,H7,I7,r7,y7,st7,fr7⟩=>?_
      have I7':=I7.pinned (stat fr7) (T.obj _ _ st7)
      have again:∀{σ8:L2.St} {H8:Hp} {s8:Shared},aF (av X scope cp tgN C s₃ (a_ H2 D (.lst [])) fp) ([]++jS fp s7.heap) σ8 H8 s8→N σ8 H8→∃m,m < n∧∃i σ' H',aF (av X scope cp tgN C s₃ (a_ H2 D (.lst [])) fp) [] σ' H' s8∧tn i s8.heap∧(∀b∈fp,H' b=none)∧W i m σ' H':=fun{σ8 H8 s8} I8 n8=>by
        obtain⟨m',hm,w8⟩:=hN σ8 H8 n8
        refine⟨m',hm,i+1,σ8,H8,I8.unpinned,T.keep _ _ _ st7 fun b hb o e=>(I8.pin (b,o) (List.mem_append_right _ (List.mem_append_right _ (bW hb e)))).1,fun b hb=>?_,w8⟩
        obtain⟨o,e,d⟩:=T.obj _ _ st7 b hb
        exact(I8.pin (b,o) (List.mem_append_right _ (List.mem_append_right _ (bW hb e)))).2.1
      refine bS (hg C s₃ (a_ H2 D (.lst [])) fp _ s7 σ5 H7 x u _ I7' r7 (step x H7 y7)) fun _ s8 ⟨σ8,H8,I8,q8⟩=>?_
      refine bS (ht C s₃ (a_ H2 D (.lst [])) fp _ s8 σ8 H8 _ I8 q8) fun ok s9 ⟨H9,I9,q9⟩=>?_
      cases ok with
      | false=>
        rw [if_neg Bool.false_ne_true] at q9 ⊢
        exact again I9 q9
      | true=>
        rw [if_pos rfl] at q9 ⊢
        exact fun k Q' E' hk=>zo (Y:=av X scope cp tgN C s₃ (a_ H2 D (.lst [])) fp) hc rfl (hi2 C s₃ _ fp) (hg2 C s₃ _ fp) (ht2 C s₃ _ fp) (he C s₃ _ fp) (hs2 C s₃ _ fp) I9 q9 k Q' E' fun s' ⟨σ11,H11,I11,q11⟩=>hk s' (again I11 q11)
  exact codeAny_compStart_list loop (T.self X.A 0 _ _ _ hst4 loop)
section
variable{X:Cx}{K:⇑0}{pos:Pos}
theorem vI{ix:Nat}{nm:Str}{posn poss:Pos}{elt iter tg iter2 tg2:Expr}{ifs ifs2:List Expr}{scope:Scope}{fi fi2:FI}{g g2:FG}{ft ft2:FT}{fe:FE}{W W2:List Nat}(sc0:Scope)(N0:List Str)(cp:List (Nat × Str))(tgN:List Str)
    (hc:X.calm=true)(hsc:X.env.scope=sc0)(hN0:X.N=N0)(hi:PI X tg iter (fI K fi))
    (hg:∀C s0 H0 fp,PG (av X scope cp tgN C s0 H0 fp) tg (fG K g W))
    (ht:∀C s0 H0 fp,uO (av X scope cp tgN C s0 H0 fp) ifs (fT K ft))
    (hi2:∀C s0 H0 fp,PI (av X scope cp tgN C s0 H0 fp) tg2 iter2 (fI K fi2))
    (hg2:∀C s0 H0 fp,PG (av X scope cp tgN C s0 H0 fp) tg2 (fG K g2 W2))
    (ht2:∀C s0 H0 fp,uO (av X scope cp tgN C s0 H0 fp) ifs2 (fT K ft2))
    (he:∀C s0 H0 fp,PE (av X scope cp tgN C s0 H0 fp) elt (fE K fe))
    (hk:scope.kind=.function)(hcell:∀y∈scope.names,y.2≠.cell)(hnames:∀y∈scope.names,y.2=.local→scope.names.lookup y.1=some .local)
    (hfr:∀y∈scope.names,y.2=.free→scope.names.lookup y.1=some .free∧sc0.names.lookup y.1=some .cell)
    (hcp:∀p∈cp,N0[p.1]?=some p.2)(hcq:∀p∈cp,sc0.names.lookup p.2=some .cell∧scope.names.lookup p.2=some .free)(hnd:(cp.map (·.1)).Nodup)(hW:∀j∈W++W2,cp.length≤j)
    (hNd:X.N.Nodup)(hix:X.N[ix]?=some nm)(hlc:X.env.scope.names.lookup nm=some .local)(hsw:swapsWith (.ListComp elt [⟨tg,iter,ifs,0⟩,⟨tg2,iter2,ifs2,0⟩] scope pos) (some (.Name nm posn)) poss.line X.env=pure true)
    (hs2:∀C s0 H0 fp x,foldedSetIterable iter2 (av X scope cp tgN C s0 H0 fp).env x=pure x)(hs:∀x,foldedSetIterable iter X.env x=pure x):
    PS X (.Assign [.Name nm posn] (.ListComp elt [⟨tg,iter,ifs,0⟩,⟨tg2,iter2,ifs2,0⟩] scope pos) poss) (fS K (aV ix (mT cp tgN.length fi g ft fi2 g2 ft2 fe)) [ix]):=(uf sc0 N0 cp tgN hc hsc hN0 hi (fun C s0 H0 fp=>(hg C s0 H0 fp).wide fun j hj=>List.mem_append_left W2 hj) ht hi2 (fun C s0 H0 fp=>(hg2 C s0 H0 fp).wide fun j hj=>List.mem_append_right W hj) ht2 he hk hcell hnames hfr hcp hcq hNd hix hlc hsw hs2 hs).mono fun D σ H h=>by
  obtain⟨F,e,fl,R,hf,q⟩:=h
  unfold aV at hf
  obtain⟨⟨r,e1⟩,h1,hf⟩:=LD hf
  obtain⟨e2,h2,hf⟩:=LF hf
  cases hf
  refine yt hnd hW ⟨F,e,r,e1,R,h1,fun F1 H1 v X1 R1 A1=>?_⟩
  obtain⟨x,R2⟩:=vH R X1 R1 A1 h2
  exact q F1 H1 _ x R2
variable{o:Expr}{fo:FE}{apos cpos:Pos}
end
section
variable{X:Cx}{K:⇑0}
end
structure wk (f:Fr):Prop where
  pos:0 < f.2
  cop:Int.gcd f.1 f.2=1
def Vl(M:Int)(f:Fr)(v:Int):Prop:=f.1*M=v*f.2
theorem Vl.of{M i:Int}{f:Fr}(h:rF M i f):Vl M f (f.1*(M / f.2)):=by
  unfold Vl
  obtain⟨c,hc⟩:=h.dv
  have hp:=h.pos
  rw [hc,Int.mul_ediv_cancel_left _ ↥0,Int.mul_assoc,Int.mul_comm c f.2]
theorem Vl.pl{M:Int}{a b:Fr}{v w:Int}(ha:Vl M a v)(hb:Vl M b w)(pa:0 < a.2)(pb:0 < b.2):Vl M (pl a b) (v+w):=by
  unfold Vl at*
  have p:a.2*b.2≠0:=Int.ne_of_gt (Int.mul_pos pa pb)
  have hc:=vk (t:=a.1*b.2+b.1*a.2) (b:=a.2*b.2) p
  change (L2.pl a b).1*(a.2*b.2)=(L2.pl a b).2*(a.1*b.2+b.1*a.2) at hc
  generalize (L2.pl a b).1=x at*
  generalize (L2.pl a b).2=y at*
  refine Int.eq_of_mul_eq_mul_right (a:=a.2*b.2) p ?_
  have e1:x*M*(a.2*b.2)=y*(a.1*M*b.2+b.1*M*a.2):=by
    rw [show x*M*(a.2*b.2)=x*(a.2*b.2)*M by rw [Int.mul_assoc,Int.mul_comm M,←Int.mul_assoc],hc,Int.mul_assoc y,Int.add_mul]
    congr 2
    · rw [Int.mul_assoc,Int.mul_comm b.2 M,←Int.mul_assoc]
    · rw [Int.mul_assoc,Int.mul_comm a.2 M,←Int.mul_assoc]
  rw [e1,ha,hb]
  have e2:v*a.2*b.2+w*b.2*a.2=(v+w)*(a.2*b.2):=by
    rw [Int.add_mul,Int.mul_assoc v,Int.mul_assoc w,Int.mul_comm b.2 a.2]
  rw [e2,←Int.mul_assoc,Int.mul_comm y (v+w)]
theorem wk.lowM{t b:Int}(h:0 < b):wk (L2.lowM t b):=by
  obtain⟨d,_,_,_,_,h5⟩:=iO (t:=t) (b:=b) ↥0
  exact⟨h5,oU ↥0⟩
theorem wk.pl{a b:Fr}(pa:0 < a.2)(pb:0 < b.2):wk (pl a b):=wk.lowM (Int.mul_pos pa pb)
theorem wk.uniq{M v:Int}{a b:Fr}(hM:0 < M)(ha:wk a)(hb:wk b)(va:Vl M a v)(vb:Vl M b v):a=b:=by
  unfold Vl at*
  have cr:a.1*b.2=b.1*a.2:=by
    refine Int.eq_of_mul_eq_mul_right (a:=M) ↥0 ?_
    rw [show a.1*b.2*M=a.1*M*b.2 by rw [Int.mul_assoc,Int.mul_comm b.2,←Int.mul_assoc],va,show b.1*a.2*M=b.1*M*a.2 by rw [Int.mul_assoc,Int.mul_comm a.2,←Int.mul_assoc],vb,Int.mul_assoc,Int.mul_assoc,Int.mul_comm a.2]
  have pa:=ha.pos;have pb:=hb.pos
  have d1:a.2.natAbs ∣ b.2.natAbs:=by
    have dv:a.2.natAbs ∣ (a.1*b.2).natAbs:=Int.natAbs_dvd_natAbs.mpr ⟨b.1,by rw [cr,Int.mul_comm]⟩
    rw [Int.natAbs_mul] at dv
    have cp:Nat.Coprime a.2.natAbs a.1.natAbs:=by
      have:Nat.gcd a.1.natAbs a.2.natAbs=1:=ha.cop
      rw [Nat.Coprime,Nat.gcd_comm];exact this
    exact cp.dvd_of_dvd_mul_left dv
  have d2:b.2.natAbs ∣ a.2.natAbs:=by
    have dv:b.2.natAbs ∣ (b.1*a.2).natAbs:=Int.natAbs_dvd_natAbs.mpr ⟨a.1,by rw [←cr,Int.mul_comm]⟩
    rw [Int.natAbs_mul] at dv
    have cp:Nat.Coprime b.2.natAbs b.1.natAbs:=by
      have:Nat.gcd b.1.natAbs b.2.natAbs=1:=hb.cop
      rw [Nat.Coprime,Nat.gcd_comm];exact this
    exact cp.dvd_of_dvd_mul_left dv
  have e2:a.2=b.2:=by
    have:=Nat.dvd_antisymm d1 d2
    lia
  have e1:a.1=b.1:=by
    rw [e2] at cr
    exact Int.eq_of_mul_eq_mul_right ↥0 cr
  exact Prod.ext e1 e2
def bZ(a:Fr)(L:List Fr):Fr:=L.foldl pl a
theorem oq{M j:Int}:∀(L:List Fr) {a:Fr} {i:Int},rF M i a→wk a→0≤j→(∀f∈L,rF M j f)→rF M (i+j*(L.length:Int)) (bZ a L)∧wk (bZ a L)∧∀v,Vl M a v→Vl M (bZ a L) (v+(L.map fun f=>f.1*(M / f.2)).sum)
  | [],a,i,h,hl,_,_=>⟨by simpa [bZ] using h,hl,fun v hv=>by simpa [bZ] using hv⟩
  | f::r,a,i,h,hl,hj,hf=>by
    have k:=hf f ↥1
    have hp:=h.plS k
    obtain⟨c1,c2,c3⟩:=oq r (a:=pl a f) hp (wk.pl h.pos k.pos) hj fun x hx=>hf x (by simp [hx])
    refine⟨?_,c2,fun v hv=>?_⟩
    · have e:i+j*((f::r).length:Int)=i+j+j*(r.length:Int):=by
        simp only [List.length_cons,Int.natCast_add,Int.natCast_one,Int.mul_add,Int.mul_one];lia
      rw [e];exact c1
    · have:=c3 _ (hv.pl (Vl.of k) h.pos k.pos)
      simp only [List.map_cons,List.sum_cons]
      rw [Int.add_assoc] at this
      exact this
theorem AS{a b:List Int}(h:a.Perm b):a.sum=b.sum:=by
  induction h with
  | nil=>rfl
  | cons x _ ih=>simp only [List.sum_cons,ih]
  | swap x y l=>simp only [List.sum_cons];lia
  | trans _ _ h1 h2=>rw [h1,h2]
theorem sV:wk ((0,1):Fr):=⟨by decide,by decide⟩
theorem ym{M j:Int}{L L':List Fr}(hM:0 < M)(hj:0≤j)(h:L.Perm L')(hf:∀f∈L,rF M j f):bZ (0,1) L=bZ (0,1) L':=by
  obtain⟨_,l1,v1⟩:=oq (M:=M) L (a:=(0,1)) (i:=0) (wc (Int.le_refl 0)) sV hj hf
  obtain⟨_,l2,v2⟩:=oq (M:=M) L' (a:=(0,1)) (i:=0) (wc (Int.le_refl 0)) sV hj (fun f hf'=>hf f (h.mem_iff.mpr hf'))
  have z:Vl M ((0,1):Fr) 0:=by unfold Vl;simp
  have w1:=v1 0 z
  have w2:=v2 0 z
  rw [AS (h.map fun f:Fr=>f.1*(M / f.2))] at w1
  exact wk.uniq hM l1 l2 w1 w2
def bC:Nat→List (List Bool)
  | 0=>[[]]
  | n+1=>(bC n).flatMap fun r=>[r++[true],r++[false]]
def aX:Nat→List (List Bool)
  | 0=>[[]]
  | n+1=>(aX n).map (· ++[true])++(aX n).map (· ++[false])
theorem tK{α β:Type}(f g:α→β):∀(l:List α),(l.flatMap fun x=>[f x,g x]).Perm (l.map f++l.map g)
  | []=>.refl _
  | x::r=>by
    simp only [List.flatMap_cons,List.map_cons,List.cons_append,List.nil_append]
    refine List.Perm.cons _ ?_
    refine((tK f g r).cons _).trans ?_
    exact(List.perm_middle (a:=g x) (l₁:=r.map f) (l₂:=r.map g)).symm
theorem iW:∀n,(bC n).Perm (aX n)
  | 0=>.refl _
  | n+1=>by
    unfold bC aX
    exact(tK _ _ _).trans (((iW n).map _).append ((iW n).map _))
theorem iV:∀n,(aX n).length=2 ^ n∧∀r∈aX n,r.length=n
  | 0=>⟨rfl,fun r hr=>by simp [aX] at hr;subst hr;rfl⟩
  | n+1=>by
    obtain⟨h1,h2⟩:=iV n
    refine⟨by simp only [aX,List.length_append,List.length_map,h1,Nat.pow_succ];lia,fun r hr=>?_⟩
    simp only [aX,List.mem_append,List.mem_map] at hr
    rcases hr with ⟨q,hq,rfl⟩ | ⟨q,hq,rfl⟩<;>simp [h2 q hq]
theorem mM(n:Nat):(bC n).length=2 ^ n∧∀r∈bC n,r.length=n:=by
  obtain⟨h1,h2⟩:=iV n
  exact⟨by rw [(iW n).length_eq,h1],fun r hr=>h2 r ((iW n).mem_iff.mp hr)⟩
def uQ(t:mr)(b:Bool):Fr:=if b then(t.top,t.bot) else(t.bot - t.top,t.bot)
def pX:Fr→List mr→List Bool→Fr
  | a,t::ts,b::bs=>pX (tm a (uQ t b)) ts bs
  | a,_,_=>a
theorem uY{n:Int}{t:mr}(o:t.Ok n)(b:Bool):uP t.bot (uQ t b):=by
  have:=o.c0;have:=o.c1;have:=o.b0
  unfold uQ
  cases b with
  | true=>exact⟨by show 0 < t.bot;lia,by show 0≤t.top;lia,by show t.top≤t.bot;lia,Int.dvd_refl _⟩
  | false=>exact⟨by show 0 < t.bot;lia,by show 0≤t.bot - t.top;lia,by show t.bot - t.top≤t.bot;lia,Int.dvd_refl _⟩
def o5(M:Int)(ts:List mr):Int:=ts.foldl (fun m t=>m*t.bot) M
theorem o6{n:Int}:∀{ts:List mr} {M:Int} {k:Nat},(∀t∈ts,t.Ok n)→0 < M→Bt k M→0 < o5 M ts∧Bt (k+7*ts.length) (o5 M ts)
  | [],M,k,_,h0,hb=>⟨h0,by simpa [o5] using hb⟩
  | t::r,M,k,h,h0,hb=>by
    have o:=h t ↥1
    have b0:=o.b0;have b1:=o.b1
    have:=o6 (ts:=r) (M:=M*t.bot) (k:=k+7) (fun x hx=>h x (by simp [hx])) (Int.mul_pos h0 ↥0) (hb.mul (show Bt 7 t.bot by unfold Bt;lia))
    refine⟨this.1,?_⟩
    have e:k+7*(t::r).length=k+7+7*r.length:=by simp only [List.length_cons];lia
    rw [e];exact this.2
theorem sv{n:Int}:∀{ts:List mr} {bs:List Bool} {M:Int} {a:Fr},(∀t∈ts,t.Ok n)→bs.length=ts.length→uP M a→uP (o5 M ts) (pX a ts bs)
  | [],[],M,a,_,_,h=>h
  | t::ts,b::bs,M,a,ho,hl,h=>by
    show uP (o5 (M*t.bot) ts) (pX (tm a (uQ t b)) ts bs)
    exact sv (fun x hx=>ho x (by simp [hx])) (by simpa using hl) (h.tm (uY (ho t ↥1) b))
  | [],_::_,_,_,_,hl,_=>by simp at hl
  | _::_,[],_,_,_,hl,_=>by simp at hl
abbrev Pg:=List Int × Int
structure HQ (k:Nat) (ps:List Pg):Prop where
  ne:ps≠[]
  len:ps.length≤2 ^ k
  pt:∀p∈ps,p.1.length≤2*k∧0≤p.2∧p.2≤1000*(k:Int)
section
variable{prog:Program}{w:World}{A:Around}{E:Value→Shared→Prop}{s:Shared}
end
section
variable{X:Cx}{a:Expr}{ta:TA}{p p2 pos pos2:Pos}
variable{K:⇑0}{fs:FA}{p3:Pos}
end
def FU(lo hi:Int):PyData→Bool
  | .int i=>decide (lo≤i)&&decide (i≤hi)
  | _=>false
def uniq(many:Int):List Int→List PyData→Bool
  | _,[]=>true
  | pre,.int i::r=>FU 0 (many - 1) (.int i)&&(!pre.contains i&&uniq many (pre++[i]) r)
  | _,_::_=>false
theorem qC{g:FG}{ft:FT}{fe:FE}(P:Nat→En→Prop)(R:PyData→Prop):∀(items:List PyData) (k:Nat) (e:En) (acc:List PyData),(∀i x e,items[i]?=some x→P (k+i) e→∃e1 r d e2,g x e=some e1∧ft e1=some (true,e1)∧fe e1=some (r,e2)∧kW r=some d∧R d∧P (k+i+1) e2)→P k e→acc.length+items.length≤1000000→
    ∃out e',cF g ft fe items e acc=some (acc++out,e')∧out.length=items.length∧(∀d∈out,R d)∧P (k+items.length) e'
  | [],k,e,acc,_,h,_=>⟨[],e,by simp [cF],rfl,(fun _ h=>by cases h),h⟩
  | x::r,k,e,acc,hs,h,hl=>by
    obtain⟨e1,v,d,e2,h1,h2,h3,h3',h4,h5⟩:=hs 0 x e rfl h
    simp only [List.length_cons] at hl
    obtain⟨out,e',h6,h7,h8,h9⟩:=qC P R r (k+1) e2 (acc++[d]) (fun i y e hy hp=>by
      have:=hs (i+1) y e (by simpa using hy) (by rw [show k+(i+1)=k+1+i by lia];exact hp)
      rw [show k+(i+1)+1=k+1+i+1 by lia] at this
      exact this) (by simpa using h5) ↥7
    refine⟨d::out,e',?_,by simp [h7],fun y hy=>?_,by rw [List.length_cons,show k+(r.length+1)=k+1+r.length by lia];exact h9⟩
    · unfold cF
      simp only [h1,h2,h3,h3',Option.bind_some,if_true]
      rw [if_pos ↥0,h6]
      simp
    · rcases LJ hy with rfl | hy
      · exact h4
      · exact h8 y hy
theorem yw{cp:List (Nat × Str)}{nT:Nat}{fi:FI}{g:FG}{ft:FT}{fe:FE}{e e1 eo:En}{items out:List PyData}(h1:fi e=some (items,[],e1))(h3:cF g ft fe items (mC cp nT e1) []=some (out,eo))(hb:gD cp eo e1=true):bG cp nT fi g ft fe e=some (.l out,mj (lV cp) eo e1):=by
  unfold bG
  rw [h1]
  simp only [Option.bind_some,List.all_nil,if_true,h3]
  rw [if_pos hb]
mutual
def wt:PyData→Nat
  | .list xs=>A6 xs+1
  | .tuple xs=>A6 xs+1
  | .dict _=>1
  | .none=>1
  | .bool _=>1
  | .int _=>1
  | .str _=>1
def A6:List PyData→Nat
  | []=>0
  | x::r=>wt x+A6 r
end
structure Iu (d:PyData) (k:Nat):Prop where
  lay:d.canLay0=true
  sh:d.showable=true
  dp:d.depth≤k
  ln:d.shown.length+2≤104*wt d
  so:PyData.strOk d.shown=true
section
variable{X:Cx}{K:⇑0}
variable{a b:Expr}{fa fb:FE}{pos:Pos}
end
def tx(s:Str):List Nat:=s.cps.toList
section
variable{X:Cx}{K:⇑0}{es:List Expr}{k0:Nat}{tp:Pos}{a b:Expr}{fs:FA}{p pos:Pos}
end
def Im(x:Nd)(b:Bool):Int:=if b=true then x.yes else x.no
def Dc(T:List Nd)(i:Nat)(b:Bool):Int:=match T[i]? with
  | some x=>Im x b
  | none=> -1
def Hf(T:List Nd):Prop:=∀(i j:Nat) (a b:Bool),Dc T i a=Dc T j b→Dc T i a≠ -1→i=j∧a=b
def HK(w:Wt):Int × Int:=(w.par,w.side)
structure Iz (T:List Nd) (ws:List Wt):Prop where
  unq:Hf T
  rng:∀i a,Dc T i a= -1∨(0 < Dc T i a∧Dc T i a < (T.length:Int))
  free:∀w∈ws,w.par= -1∨(0≤w.par∧w.par < (T.length:Int)∧Dc T w.par.toNat (w.side==0)= -1)
  dst:(ws.map HK).Nodup
  side:∀w∈ws,w.side=0∨w.side=1
structure IC (T:List Nd) (w0 ws order:List Int):Prop where
  nd:(order++ws).Nodup
  par:∀v∈order++ws,v=0∨∃u∈order,∃b,Dc T u.toNat b=v∧v≠ -1
  fst:(order=[]∧ws=w0)∨order[0]?=some 0
section
variable{prog:Program}{w:World}{A:Around}{E:Value→Shared→Prop}{s:Shared}
end
section
variable{X:Cx}{tg a:Expr}{ta:TA}{p pos:Pos}
end
section
variable{X:Cx}{K:⇑0}{σ:L2.St}{tg a:Expr}{fs:FA}{p pos:Pos}
end
section
variable{X:Cx}{a k:Expr}{p2 pos:Pos}{fa fk:FE}{K:⇑0}
section
variable{prog:Program}{w:World}{A:Around}{E:Value→Shared→Prop}{s:Shared}
end
end
section
variable{X:Cx}{a b:Expr}{ta:TA}{p p2 pos pos2:Pos}{K:⇑0}{fs:FA}
end
section
variable{X:Cx}{o i e:Expr}{fo fi:FE}{tpos pos:Pos}{K:⇑0}
end
section
variable{X:Cx}{K:⇑0}
end
section
open PySem.MeetsSeq2 PySem.AutoSeq1 PySem.SeqAt
end
section
variable{X:Cx}{K:⇑0}{o a:Expr}{to te:TE}{name:Str}{apos cpos:Pos}{T id:String}{r:V→List V→Hp→VK→Prop}{fo fa:FE}
end
section
variable{X:Cx}{K:⇑0}{o a:Expr}{apos cpos:Pos}{fo fa:FE}
end
section
variable{K:⇑0}{F H:Hp}{σ:L2.St}{e:En}{cp:List (Nat × Str)}{nT:Nat}
end
section
variable{X:Cx}{K:⇑0}{a b:Expr}{es:List Expr}{fa fb:FE}{fs:FA}{pos p p2 p3:Pos}{lo hi:Option Expr}
end
section
variable{X:Cx}{K:⇑0}
end
section
variable{X:Cx}{K:⇑0}{a b:Expr}{fa fb:FE}{pos:Pos}
end
section
variable{X:Cx}{K:⇑0}
end
structure Sw (b:Bool) (n dep:Nat) (d:PyData):Prop where
  dl:bif b then kZ d=true else d.hasDict=false
  sh:d.showable=true
  dp:d.depth≤dep
  ln:d.shown.length+2≤n
  so:PyData.strOk d.shown=true
structure S1 (n:Nat) (f:Fr):Prop where
  low:wk f
  lo:0≤f.1
  hi:f.1≤f.2
  bt:Bt n f.2
def Il(e:Int)(t:mr):Bool:=t.one==e || t.other==e
structure ID (b f g:Fr):Prop where
  pf:0 < f.2
  pg:0 < g.2
  eq:g.1*(f.2*b.1)=g.2*(f.1*b.2)
structure IB (O:aZ) (ss ws:List Std):Prop where
  len:ss.length=ws.length
  at':∀j,(ss.getD j ([],[])).1=(ws.getD j ([],[])).1∧(ss.getD j ([],[])).2.length≤2*(ss.getD j ([],[])).1.length∧∀k∈(ss.getD j ([],[])).1,lh O k
structure Iy (O:aZ) (T:List Nd):Prop where
  tie:∀(i:Nat) (x:Nd),T[i]?=some x→lh O x.tie
  lk:∀(i:Nat) (x:Nd),T[i]?=some x→(-1≤x.yes∧x.yes < (T.length:Int))∧(-1≤x.no∧x.no < (T.length:Int))
section
variable{K:⇑0}
variable{X:Cx}{σ:L2.St}{H0 H:Hp}{e:En}
end
section
variable{X:Cx}{a b:Expr}{ta:TA}{p p2 pos pos2:Pos}
end
section
variable{X:Cx}{K:⇑0}{fs:FA}{a b:Expr}{p p2 pos pos2:Pos}
end
open PySem PySem.Spec PyProof.Rows PySem.W
structure Hd (lt:Nat→Nat→Bool):Prop where
  irr:∀i,lt i i=false
  tr:∀{i j k},lt i j=false→lt j k=false→lt i k=false
  asy:∀{i j},lt i j=true→lt j i=false
structure IA (n:Nat) (p:Array Nat):Prop where
  sz:p.size=n
  pm:p.Perm (List.toArray (List.range n))
section
variable{lt:Nat→Nat→Bool}{n:Nat}(O:Hd lt)
include O
end
open PySem PySem.Spec PyProof.Rows PySem.W
section
variable{prog:Program}{w:World}{A:Around}{E:Value→Shared→Prop}{s:Shared}
end
open PySem PySem.Spec PyProof.Rows PySem.W
section
variable{X:Cx}{K:⇑0}
end
section
variable{X:Cx}{K:⇑0}
variable{o a:Expr}{es:List Expr}{fo:FE}{fs:FA}{apos cpos:Pos}
end
section
variable{X:Cx}{K:⇑0}{σ σ2:L2.St}{H0 F H F2 H2 F3:Hp}{e e2:En}
end
section
variable{X:Cx}{K:⇑0}{a b:Expr}{fa fb:FE}{pos p p1 p2 p3 pos':Pos}{x:Str}{i:Nat}
end
section
variable{X:Cx}{K:⇑0}
end
section
variable{prog:Program}{w:World}{A:Around}{R:Result→Shared→Prop}
end
def Ct(l:Addr)(wi:TI)(g:TG)(tc:TT)(tk tv:TE)(σ:L2.St)(H:Hp)(N:L2.St→Hp→Prop):Prop:=
  wi σ H fun J H1=>∃W:Nat→Nat→L2.St→Hp→Prop,(∃m,W 0 m σ H1)∧∀i m σ' H',W i m σ' H'→
    (J.stop i H'∧N σ' H')∨(J.go i H'∧∃N2:L2.St→Hp→Prop,(∀σ2 H2,N2 σ2 H2→∃m',m' < m∧W (i+1) m' σ2 H2)∧
      ∀x H2,J.yld i H' x H2→g x σ' H2 fun σ2 H3=>tc σ2 H3 fun b H4=>if b=true then tk σ2 H4 fun y H5=>tv σ2 H5 fun v H6=>∃(kk:mV) (kvs:List (mV × V)),y=kV kk∧H6 l=some (.dK kvs)∧kvs.length < sizeLine∧N2 σ2 (a_ H6 l (.dK (Hy kvs kk v))) else N2 σ2 H4)
structure G3 (cp:List (Nat × Str)) (nT:Nat) (wi:TI) (g:TG) (tc:TT) (wi2:TI) (g2:TG) (tc2:TT) (tk tv:TE) (σ:L2.St) (H:Hp) (Q:VK):Prop where
  go:wi σ H fun J H1=>∀l,H1 l=none→
  ∃W:Nat→Nat→L2.St→Hp→Prop,(∃m,W 0 m (dU cp nT σ) (a_ H1 l (.dK [])))∧∀i m σ' H',W i m σ' H'→
    (J.stop i H'∧Q (.ref l) H')∨(J.go i H'∧∃N:L2.St→Hp→Prop,(∀σ2 H2,N σ2 H2→∃m',m' < m∧W (i+1) m' σ2 H2)∧
      ∀x H2,J.yld i H' x H2→g x σ' H2 fun σ2 H3=>tc σ2 H3 fun b H4=>if b=true then Ct l wi2 g2 tc2 tk tv σ2 H4 N else N σ2 H4)
def aK(p:Int × yH):mV × V:=(Sum.inl p.1,p.2.toV)
def aD(p:Int × yH):PyData × PyData:=(.int p.1,p.2.toD)
section
variable{K:⇑0}{F H F' H':Hp}{σ σ':L2.St}{e e':En}{nT:Nat}
inductive CD (K:⇑0) (W:List Nat) (σ0:L2.St) (F1 H1:Hp) (e0:En) (l:Addr) (P:Hp→En→List (Int × yH)→Prop) (σ':L2.St) (H':Hp):Prop
  | mk {F':Hp} {ei:En} {acc:List (Int × yH)} (R:bc K F' H' σ' ei) (X:dk W σ0 F1 H1 e0 σ' F' H' ei) (fl:F' l=none) (hl:H' l=some (.dK (acc.map aK))) (hc:P F' ei acc):CD K W σ0 F1 H1 e0 l P σ' H'
end
section
variable{X:Cx}{K:⇑0}{pos:Pos}
end
section
variable{K:⇑0}{F H F' H' F1 H1 F2 H2:Hp}{σ σ' σ1 σ2:L2.St}{e e' e1 e2:En}{i:Nat}{W W1 W2:List Nat}
structure He (K:⇑0) (i:Nat) (F H:Hp) (σ:L2.St) (e:En):Prop where
  rel:bc K F H σ (e.set i none)
  dct:∃(l:Addr) (m:List (Int × yH)),e[i]?=some (some (.d (.dict (m.map aD))))∧σ[i]?=some (some (.ref l))∧F l=none∧H l=some (.dK (m.map aK))
structure Ia (i:Nat) (W:List Nat) (σ:L2.St) (F H:Hp) (e:En) (σ':L2.St) (F' H':Hp) (e':En):Prop where
  sf:aC F F'
  dom:∀a,H' a=none→H a=none
  fr:∀a vs,F a=none→H a=some (.lst vs)→¬cn σ (e.set i none) H a→F' a=none
  lst:∀a vs,H a=some (.lst vs)→∃vs',H' a=some (.lst vs')
  tmp:∀a o,H a=some o→¬cn σ (e.set i none) H a→σ[i]?≠some (some (.ref a))→H' a=some o
  own:∀a,cn σ' (e'.set i none) H' a→cn σ (e.set i none) H a∨H a=none
  wr:∀j,j∉W→σ'[j]?=σ[j]?
  dd:σ'[i]?=σ[i]?
  fd:∀a m,F a=none→H a=some (.dK m)→¬cn σ (e.set i none) H a→σ[i]?≠some (some (.ref a))→F' a=none
end
section
variable{X:Cx}{K:⇑0}{i:Nat}{W W1 W2:List Nat}{st:Stmt}{fL:List Stmt}{f g:FS}{ft:FT}{pos:Pos}
inductive G8 (K:⇑0) (i:Nat) (F1:Hp) (P:En→Prop) (G:L2.St→Hp→Hp→En→Prop) (σ:L2.St) (H:Hp):Prop
  | mk {F:Hp} {e:En} (R:He K i F H σ e) (sF:aC F1 F) (hf:P e) (q:G σ F H e):G8 K i F1 P G σ H
end
abbrev yx:List Value:=[.type "ValueError",.type "Exception",.type "BaseException",.type "object"]
def G6(h:Heap)(C:Addr):Prop:=∃(bm:List Value) (N:Addr) (nm q:Str) (bs:List Value) (hd:Bool) (sn:List Str) (sub:List Value) (ab:Bool) (col:Option Bool) (dd:Option Addr) (k0 k1 k2 k3 k5:Option Value) (m:Str→Option Value),
  h.get? C=some (excClassObj nm q C N bs bm hd sn sub ab col dd k0 k1 k2 k3 k5 "ValueError.__new__")∧h.Ns N m∧m "__init__"=none∧OwnTail h yx bm
theorem Bl{K:⇑0}{h:Heap}{C:Addr}(X:K.In h)(q:PySem.W.excIn K C yx "ValueError.__new__"=true):G6 h C:=by
  unfold PySem.W.excIn at q
  split at q
  case h_2=>cases q
  case h_1 dd cd sl ho=>
  split at q
  case h_2=>cases q
  case h_1 C' bm k0 k1 k2 k3 n k5 hm hs=>
  simp only [Bool.and_eq_true,beq_iff_eq,Bool.not_eq_true'] at q
  obtain⟨⟨⟨⟨⟨e1,e2⟩,e3⟩,e4⟩,e5⟩,e6⟩:=q
  subst e1 e2
  cases cd with
  | mk nm bs mro ns qn hd sn sub ab col del=>
  have e7:mro=.ref C'::bm:=hm
  have e8:del=false:=e3
  subst e7 e8
  cases sl with
  | mk l=>
  have e9:l=[k0,k1,k2,k3,some (.builtin "ValueError.__new__"),k5]:=hs
  subst e9
  exact⟨bm,ns,nm,qn,bs,hd,sn,sub,ab,col,dd,k0,k1,k2,k3,k5,_,X _ _ ho,.of_isNs (PySem.W.isNs_of_in X e5),PySem.W.nsMap_none_of_in X e5 e6,PySem.W.tail_of_in X e4⟩
section
variable{X:Cx}{C:Addr}{x:Str}{p pos rp:Pos}{e:Expr}{t:TA}
def Kp(H H':Hp):Prop:=∀a o,H a=some o→H' a=some o
def rD(X:Cx)(C:Addr):Prop:=∀(pins:List (Addr × Obj)) (σ:St) (H:Hp) (s:Shared) (h':Heap) (a:Addr) (vs:List Value),aF X pins σ H s→Kp X.H₀ H→Heap.MadeExcOf s.heap h' a (.ref C) vs→X.xe (.ref a) {s with heap:=h'}
theorem Ak(hcalm:X.calm=true)(hg:Gl X x)(hm:X.mg x=some (.ref C))(hC:PySem.W.excIn X.K C yx "ValueError.__new__"=true)(hx:rD X C)(ha:PA X [e] t)
    (hdb:(x==("__debug__":Str))=false:=by decide)(he:starEach [e] X.env=[(false,eval e X.env)]:=by rfl):
    PS X (.Raise (some (.Call (.Name x p) [e] [] pos)) none rp) (fun _ σ H=>t σ H fun vs H1=>vs.length≤sizeLine∧Kp X.H₀ H1):=by
  intro pins s σ H D I h
  obtain⟨bm,N,nm,q,bs,hd,sn,sub,ab,col,dd,k0,k1,k2,k3,k5,m,c1,c2,c3,c4⟩:=Bl I.mod.kin hC
  refine wpAny_Raise_call_subU (C:=C) (N:=N) (nm:=nm) (q:=q) (bs:=bs) (bm:=bm) (hdct:=hd) (sn:=sn) (sub:=sub) (ab:=ab) (col:=col) (dd:=dd) (k0:=k0) (k1:=k1) (k2:=k2) (k3:=k3) (k5:=k5) (mN:=m) F.excBase_ValueError ↥2 F.excBase_ValueError (c4.hasType ↥2) (I.ok.hd hcalm) (by rw [he];rfl) c3 (j' I hg hm ⟨rfl,?_⟩ hdb)
  have hA:=ha pos pins s σ H _ I h
  rw [he] at hA ⊢
  refine Calls.evalArgs_plain (bS hA fun us s1 ⟨vs,H1,I1,r,q,kq⟩=>⟨rfl,?_,I1.bk _ _ c1,c2.keeps I1.bk,c4.keeps I1.bk,fun h' a hx'=>hx pins σ H1 s1 h' a us I1 kq hx'⟩)
  rw [←r.length];exact q
end
theorem dX.some{P:Program}{w:World}{H:Hp}{h:Heap}{a:Addr}{o:HO}(x:dX P w H h a o):∃u,h.get? a=.some u:=by
  cases o with
  | lst xs=>obtain⟨_,_,_,_,e⟩:=x;exact⟨_,e⟩
  | tup xs=>obtain⟨_,_,_,p⟩:=x;obtain⟨o,e,_⟩:=p;exact⟨o,e⟩
  | dK kvs=>obtain⟨_,_,_,_,o,_,_,e,_⟩:=x;exact⟨_,e⟩
  | dT kvs=>obtain⟨_,_,_,_,o,_,_,e,_⟩:=x;exact⟨_,e⟩
  | set S n=>obtain⟨o,_,_,_,e,_⟩:=x;exact⟨_,e⟩
  | ins C dx fs=>obtain⟨_,_,_,e,_⟩:=x;exact⟨_,e⟩
  | own y=>obtain⟨o,e⟩:=x;exact⟨o,e⟩
  | xd fs=>obtain⟨_,⟨_,_,_,e,_⟩,_⟩:=x;exact⟨_,e⟩
  | rng lo hi=>obtain⟨_,_,_,e⟩:=x;exact⟨_,e⟩
  | frz ob u=>obtain⟨e,_⟩:=x;exact⟨_,e⟩
  | tbl ps=>exact⟨_,show h.get? a=.some _ from x⟩
  | met f y=>exact⟨_,show h.get? a=.some _ from x⟩
  | ext φ=>obtain⟨_,⟨o,e⟩,_⟩:=x;exact⟨o,e⟩
def xC(l:List Env)(h h':Heap):Prop:=∀b∈iN l,∀o,h.get? b=some o→∃sl,h'.get? b=some {o with slots:=sl}
structure CP (P:Program) (w:World) (fs:List Addr) (H H':Hp) (h b0:Heap):Prop where
  keep:∀b o,h.get? b=some o→H b=none→b∉fs→b0.get? b=some o
  there:∀b o,h.get? b=some o→b∉fs→∃o',b0.get? b=some o'
  free:∀b o,h.get? b=some o→H b=none→H' b=none
  tups:∀b xs,H b=some (.tup xs)→H' b=some (.tup xs)
  frzs:∀b o u,H b=some (.frz o u)→H' b=some (.frz o u)
  tbls:∀b ps,H b=some (.tbl ps)→∃more,H' b=some (.tbl (ps++more))
  hok:nP P w H' b0
theorem CP.un{P:Program}{w:World}{l:List Env}{H H':Hp}{h b0 h2:Heap}(x:CP P w (iN l) H H' h b0)(st:b0.StaysIn h2)(sl:xC l h h2):Un (iN l) [] H H' h h2∧nP P w H' h2:=
  ⟨⟨fun b o e n hb _=>st b o (x.keep b o e n hb),fun b o e n hb _=>sl b hb o e,fun b o e n _=>x.free b o e n,fun b o e _=>by
    by_cases hb:b∈iN l
    · obtain⟨s2,e2⟩:=sl b hb o e
      exact⟨_,e2⟩
    · obtain⟨o',e'⟩:=x.there b o e hb
      exact⟨o',st b o' e'⟩,x.tups,x.frzs,x.tbls⟩,x.hok.kept st⟩
def oy(P:Program)(w:World)(C:Addr):rB:=fun outer H s _ e s'=>∃(a:Addr) (t:Value) (b0:Heap) (H':Hp),e=.ref a∧s'.os=s.os∧AllBare s'.gens∧Heap.FlyingW b0 outer a (.ref C) t s'.heap∧xC outer s.heap s'.heap∧H' a=none∧s.heap.get? a=none∧Kp H H'∧CP P w (iN outer) H H' s.heap b0
theorem qI{h base b0:Heap}:∀{l:List Env},(∀b∈iN l,b0.get? b=none)→h.FunFrames base l→h.FunFrames b0 l
  | [],_,_=>trivial
  | env::r,hn,hl=>by
    obtain⟨hk,⟨L,o,hf,_,ho,hd⟩,hr⟩:=hl
    have e:iN (env::r)=L::iN r:=by unfold iN;rw [List.filterMap_cons,hf]
    rw [e] at hn
    exact⟨hk,⟨L,o,hf,hn L ↥1,ho,hd⟩,qI (fun b hb=>hn b (by simp [hb])) hr⟩
section
variable{P:Program}{w:World}{K:⇑0}{mg:Str→Option Value}{base:Heap}{N:List Str}{qual:Str}{scope:Scope}{f:Addr}{cd:Value}{A:Around}{outer:List Env}{s:Shared}{H:Hp}{E:XK}{C:Addr}{pins:List (Addr × Obj)}{σ:L2.St}{H1:Hp}{s1:Shared}
theorem mI{CX:rB}(I:aF (eK CX P w K mg base N qual scope f cd A outer s H E) pins σ H1 s1):(envOfC qual scope ↑s f cd).frame=some (envOfC qual scope ↑s f cd).locals∧∀b o,s.heap.get? b=some o→b∉iN outer→b∉iN (envOfC qual scope ↑s f cd::outer):=by
  have hf:(envOfC qual scope ↑s f cd).frame=some (envOfC qual scope ↑s f cd).locals:=by
    rcases I.ok.stk with e | e
    · exact absurd (congrArg List.length (show envOfC qual scope ↑s f cd::outer=outer from e)) ↥1
    · exact e.2
  refine⟨hf,fun b o e hb z=>?_⟩
  have frc:iN (envOfC qual scope ↑s f cd::outer)=(envOfC qual scope ↑s f cd).locals::iN outer:=by unfold iN;rw [List.filterMap_cons,hf]
  rw [frc] at z
  have lt:=Heap.lt_size e
  rcases LJ z with z | z
  · have ab:↑s≤(envOfC qual scope ↑s f cd).locals:=I.ok.above
    rw [z] at lt
    exact absurd lt (Nat.not_lt.mpr ab)
  · exact hb z
theorem Cr{env:Env}{b:Addr}(h:b∈iN outer):b∈iN (env::outer):=by
  unfold iN at h ⊢
  rw [List.filterMap_cons]
  split
  · exact h
  · exact List.mem_cons_of_mem _ h
theorem CP.up{CX:rB}{H':Hp}{b0:Heap}(I:aF (eK CX P w K mg base N qual scope f cd A outer s H E) pins σ H1 s1)(x:CP P w (iN (envOfC qual scope ↑s f cd::outer)) H1 H' s1.heap b0):CP P w (iN outer) H H' s.heap b0:=by
  have ib:Un (iN outer) [] H H1 s.heap s1.heap:=I.base
  have nf:=(mI I).2
  exact⟨fun b o e n hb=>x.keep b o (ib.keep b o e n hb ↥1) (ib.free b o e n ↥1) (nf b o e hb),fun b o e hb=>by
    obtain⟨o',e'⟩:=ib.there b o e ↥1
    exact x.there b o' e' (nf b o e hb),fun b o e n=>by
    obtain⟨o',e'⟩:=ib.there b o e ↥1
    exact x.free b o' e' (ib.free b o e n ↥1),fun b xs q=>x.tups b xs (ib.tups b xs q),fun b o u q=>x.frzs b o u (ib.frzs b o u q),fun b ps q=>by
    obtain⟨m1,e1⟩:=ib.tbls b ps q
    obtain⟨m2,e2⟩:=x.tbls b _ e1
    exact⟨m1++m2,by rw [e2,Array.append_assoc]⟩,x.hok⟩
theorem jX{l:List Env}{h h1 h2 b0:Heap}(x:xC l h h1)(f:h1.FunFrames b0 l)(u:h1.UpToSlots h2):xC l h h2:=fun b hb o e=>by
  obtain⟨sl,q⟩:=x b hb o e
  obtain⟨_,o',q',nf⟩:=f.mem hb
  rw [q] at q';cases q'
  obtain⟨s2,q2⟩:=u b _ q nf
  exact⟨s2,q2⟩
theorem ud{CX:rB}{a:Addr}(I:aF (eK CX P w K mg base N qual scope f cd A outer s H E) pins σ H1 s1)(h:s1.heap.get? a=none):s.heap.get? a=none:=by
  have ib:Un (iN outer) [] H H1 s.heap s1.heap:=I.base
  cases q:s.heap.get? a with
  | none=>rfl
  | some o=>
    obtain⟨o',e⟩:=ib.there a o q ↥1
    rw [e] at h;cases h
theorem qS{CX:rB}(I:aF (eK CX P w K mg base N qual scope f cd A outer s H E) pins σ H1 s1):xC outer s.heap s1.heap:=fun b hb o e=>(show Un (iN outer) [] H H1 s.heap s1.heap from I.base).slot b o e (I.ok.frf b hb) hb ↥1
theorem Az:rD (eK (oy P w C) P w K mg base N qual scope f cd A outer s H E) C:=by
  intro pins σ H1 s1 h' a vs I hkp hx
  have hst:(eK (oy P w C) P w K mg base N qual scope f cd A outer s H E).stack=envOfC qual scope ↑s f cd::outer:=rfl
  have sfr:=I.stkFree
  have sfun:=I.stack
  rw [hst] at sfr sfun
  have hf:=(mI I).1
  have hid:∀b o,s1.heap.get? b=some o→b∉iN (envOfC qual scope ↑s f cd::outer)→(PySem.W.hideAll s1.heap (iN (envOfC qual scope ↑s f cd::outer))).get? b=some o:=fun b o e hn=>PySem.W.hideAll_get _ e hn
  have hx0:CP P w (iN (envOfC qual scope ↑s f cd::outer)) H1 H1 s1.heap (PySem.W.hideAll s1.heap (iN (envOfC qual scope ↑s f cd::outer))):=⟨fun b o e _ hb=>hid b o e hb,fun b o e hb=>⟨o,hid b o e hb⟩,fun _ _ _ n=>n,fun _ _ q=>q,fun _ _ _ q=>q,fun b ps q=>⟨#[],by rw [q];simp⟩,fun b u e=>(I.hok b u e).stay (fun c v hc q=>hid c v q fun z=>by
    have zn:=sfr c z
    rcases hc with rfl | hc
    · rw [e] at zn;cases zn
    · rw [hc] at zn;cases zn) (fun _ q=>q) (fun _ _ q=>q)⟩
  have kb:s1.heap.FunFrames (PySem.W.hideAll s1.heap (iN (envOfC qual scope ↑s f cd::outer))) (envOfC qual scope ↑s f cd::outer):=qI (fun b hb=>PySem.W.hideAll_none _ hb) sfun
  refine wpAny_leaves_madeW (base:=PySem.W.hideAll s1.heap (iN (envOfC qual scope ↑s f cd::outer))) (h:=s1.heap) (I.ok.frames.trans (by rw [hst])) hf (fun b o e=>PySem.W.of_hideAll _ e) kb hx fun h2 t fl _ _ up=>?_
  refine⟨a,.ref t,_,H1,rfl,I.os,I.bare,fl,?_,?_,ud I hx.new,hkp,hx0.up I⟩
  · refine jX (b0:=PySem.W.hideAll s1.heap (iN (envOfC qual scope ↑s f cd::outer))) (h1:=h') (fun b hb o e=>?_) (kb.of_keeps fun b o hb _=>⟨o,hx.keeps b o hb,rfl⟩).2.2 up
    obtain⟨sl,q⟩:=qS I b hb o e
    exact⟨sl,hx.keeps b _ q⟩
  · cases q:H1 a with
    | none=>rfl
    | some u=>
      obtain⟨o,e⟩:=(I.hok a u q).some
      have:=hx.new
      rw [e] at this;cases this
theorem BX{x:Value}{s2:Shared}(I:aF (eK (oy P w C) P w K mg base N qual scope f cd A outer s H E) pins σ H1 s1)(kp:Kp H H1)(h:oy P w C (envOfC qual scope ↑s f cd::outer) H1 s1 E0 x s2):(eK (oy P w C) P w K mg base N qual scope f cd A outer s H E).xe x s2:=by
  obtain⟨a,t,b0,H',rfl,os,bare,fl,sl,hn,na,kp2,ex⟩:=h
  have hst:(eK (oy P w C) P w K mg base N qual scope f cd A outer s H E).stack=envOfC qual scope ↑s f cd::outer:=rfl
  refine wpAny_leaves_onW (I.ok.frames.trans (by rw [hst])) (mI I).1 fl fun h2 fl2 up=>?_
  refine⟨a,t,b0,H',rfl,os.trans I.os,bare,fl2,?_,hn,ud I na,fun c o q=>kp2 c o (kp c o q),ex.up I⟩
  refine jX (h1:=s2.heap) (b0:=b0) (fun b hb o e=>?_) fl.2.2.1.2.2 up
  obtain⟨s3,q3⟩:=qS I b hb o e
  obtain⟨s4,q4⟩:=sl b (Cr hb) _ q3
  exact⟨s4,q4⟩
end
theorem CS.okX{P:Program}{w:World}{K:⇑0}{mg:Str→Option Value}{base:Heap}{CX:rB}{x qual:Str}{st:Stmt}{f:Addr}{fd:FuncData}{N ps:List Str}{k:Nat}{sp:Sp}(F:CS K x qual st f fd)(S:ay N ps (am st))(len:∀vs H Q E,sp vs H Q E→vs.length=ps.length)
    (hb:∀(cdv:Value) (A:Around) (outer:List Env) (s:Shared) (H:Hp) (vs:List V) (Q:VK) (E:XK),c9 k (A.deeper (envOfC qual (am st) ↑s f cdv))→sp vs H Q E→
      ∃t,lp (eK CX P w K mg base N qual (am st) f cdv A outer s H E) (cw st) t∧t {nx:=fun _ H'=>Q .non H',rt:=Q} (eG N vs) H):au P w K mg base CX (k+1) f fd ps sp:=by
  obtain⟨oc,od,kV,doc,pm,an,cdv,ct,osl,e1,lk,hcd⟩:=F.ex
  rw [e1] at lk ⊢
  exact C6 lk hcd S len fun A outer s H vs Q E hr hsp=>hb cdv A outer s H vs Q E hr hsp
def mG(e:En):Bool:=e.all fun s=>match s with
  | none=>true
  | some (.d _)=>true
  | _=>false
theorem ke{e:En}(h:mG e=true){σ:L2.St}{H:Hp}{a:Addr}(o:cn σ e H a):False:=by
  obtain⟨i,⟨xs,q,_⟩ | ⟨xss,_,_,q,_⟩⟩:=o
  · have:=List.all_eq_true.mp h _ (LK q);cases this
  · have:=List.all_eq_true.mp h _ (LK q);cases this
def fR(H0:Hp)(K:⇑0)(g:En→Prop):TS:=fun _ σ H=>∃F e,bc K F H σ e∧mG e=true∧Kp H0 H∧g e
section
variable{X:Cx}{K:⇑0}{st r:Stmt}{fL:List Stmt}{c:Expr}{pos:Pos}{f1:FS}{ft:FT}{W1:List Nat}{g:En→Prop}
theorem PA.nox{es:List Expr}{t:TA}(h:PA X.nox es t):PA X es t:=fun pp pins s σ H Q I hw=>
  wpAny_mono (h pp pins s σ H Q (I.wish _) hw) (fun _ _ ⟨vs,H',I',r,q⟩=>⟨vs,H',I'.unwish,r,q⟩) fun _ _ z=>False.elim z
theorem Gv(hc:PT X c (fT K ft))(hr:PS X r (fR X.H₀ K g)):lp X (.If c [r] [] pos::fL) (fR X.H₀ K fun e=>∃e',ft e=some (true,e')∧mG e'=true∧g e'):=by
  intro pins s σ H D I ⟨F,e,R,no,kp,e',he,no',hg⟩
  have hi:=Aj (pos:=pos) hc (lY hr) (sy (X:=X))
  refine wpAny_execs_cons (bS (hi pins s σ H {nx:=fun _ _=>False,rt:=fun _ _=>False} I ⟨F,e,true,e',R,he,fun F' H' x R'=>?_⟩) fun f s1 q=>?_)
  · exact zq ⟨F',e',R',no',fun a o h=>x.tmp a o (kp a o h) (ke no),hg⟩
  · cases f with
    | next=>obtain⟨_,_,_,z⟩:=q;exact z.elim
    | brk=>obtain⟨_,_,_,z⟩:=q;exact z.elim
    | cont=>obtain⟨_,_,_,z⟩:=q;exact z.elim
    | ret u=>obtain⟨_,_,_,_,_,z⟩:=q;exact z.elim
theorem EW(hr:PS X r (fR X.H₀ K g)):lp X (r::fL) (fR X.H₀ K g):=by
  intro pins s σ H D I h
  refine wpAny_execs_cons (bS (hr pins s σ H {nx:=fun _ _=>False,rt:=fun _ _=>False} I h) fun f s1 q=>?_)
  cases f with
  | next=>obtain⟨_,_,_,z⟩:=q;exact z.elim
  | brk=>obtain⟨_,_,_,z⟩:=q;exact z.elim
  | cont=>obtain⟨_,_,_,z⟩:=q;exact z.elim
  | ret u=>obtain⟨_,_,_,_,_,z⟩:=q;exact z.elim
end
def Bb(K:⇑0)(n k0:Nat)(g:En→Prop):Sp:=fun vs H _ _=>vs.length=n∧∃(F:Hp) (as:List Sv),bc K F H (vs.map some) (as.map some)∧mG (as.map some)=true∧g (as.map some++List.replicate k0 none)
theorem zG{e:En}{k:Nat}(h:mG e=true):mG (e++List.replicate k none)=true:=by
  unfold mG at h ⊢
  rw [List.all_append,h,Bool.true_and,List.all_eq_true]
  intro s hs
  rw [(List.mem_replicate.mp hs).2]
theorem aT.fnR{P:Program}{w:World}{K:⇑0}{mg:Str→Option Value}{base:Heap}{x:Str}{st:Stmt}{f C:Addr}{fd:FuncData}{N ps:List Str}{k n k0:Nat}{g:En→Prop}(h:aT K mg x st f fd ps)(S:ay N ps (am st))(hn:ps.length=n)(hN:N.length=n+k0)
    (hb:∀(cdv:Value) (A:Around) (outer:List Env) (s:Shared) (H:Hp) (E:XK),c9 k (A.deeper (envOfC x (am st) ↑s f cdv))→lp (eK (oy P w C) P w K mg base N x (am st) f cdv A outer s H E) (cw st) (fR H K g)):
    au P w K mg base (oy P w C) (k+1) f fd ps (Bb K n k0 g):=by
  refine h.F.okX S (fun vs H Q E q=>by rw [hn];exact q.1) fun cdv A outer s H vs Q E hr hsp=>⟨_,hb cdv A outer s H E hr,?_⟩
  obtain⟨hl,F,as,R,no,hg⟩:=hsp
  have hst:eG N vs=vs.map some++List.replicate k0 none:=by unfold eG;rw [hN,hl];congr 2;lia
  rw [hst]
  exact⟨F,_,R.pad,zG no,fun _ _ z=>z,hg⟩
open PySem PySem.Spec PyProof.Rows PySem.W
section
variable{prog:Program}{w:World}{A:Around}{E:Value→Shared→Prop}{h:Heap}{g:Array GenState}{d:Drawn}{t:Nat}{os:OsState}{a D:Addr}{o:Obj}{K:Frag}
structure p4 (K:Frag) (D:Addr):Prop where
  ga:findIn K (.ref D) "__getattribute__"=some (some (.builtin "BaseException.__getattribute__"))
  gt:findIn K (.ref D) "__getattr__"=some none
  cl:findIn K (.ref D) "__class__"=some (some (.builtin "object.__class__"))
  mo:mroIn K D (.type "object")=some true
  mb:mroIn K D (.type "BaseException")=some true
  cs:(clsIn K D).isSome=true
theorem oG(hx:h.get? a=some o)(hc:o.cls=.ref D)(M:Model):Looks M h (typeOf (.ref a)) (.ref D):=hc ▸ (Looks.ld hx).andThen .now
theorem xO{tk:Tok}{Q:Fin→Shared→Prop}(X:K.In h)(Z:p4 K D)(hx:h.get? a=some o)(hc:o.cls=.ref D)(hq:Q (.done (.ret (.ref D))) ⟨h,g,d,t,os⟩):
    wpAny (model prog w) A (Builtin.«object.__getattribute__» ⟨[.ref a,.str "__class__" tk],[]⟩) Q E ⟨h,g,d,t,os⟩:=by
  have T:=oG hx hc (model prog w)
  have L1:=looks_findIn (M:=model prog w) X Z.cl
  have hT5:(⟨h,g,d,t,os⟩:Shared).TypeIs (.builtin "object.__class__") "getset_descriptor":=F.typeOf_object_class
  have f5:=F.typeOf_object_class
  have f6:=F.slot_gs_get.lookup
  have f7:=F.slot_gs_set.lookup
  repeat (any_goals (first | assumption | (with_reducible refine wpAny_loadPart_at hx ?_;rw [hc]) | with_reducible refine L1.at ?_ | wp_step))
  have L2:=looks_mroIn (M:=model prog w) X Z.mo
  refine codeAny_call_builtin F.slot_gs_get.plain F.entry_gs_get (F.slot_gs_get.check _ _ _ _ _ _ _ _ hT5 (F.args_gs_get _ _ _) ?_)
  unfold Builtin.«getset_descriptor.__get__» Builtin.Getset_descriptor.descrGet
  rw [dga_obj]
  refine wpAny_bind (wpAny_pure ?_)
  unfold Builtin.Getset_descriptor.descrGetter Builtin.Getset_descriptor.descrCheckInstance Builtin.Getset_descriptor.descrNameAndClass isInstance
  simp only [KF.owner_class]
  repeat (any_goals (first | assumption | (with_reducible refine wpAny_loadPart_at hx ?_;rw [hc]) | with_reducible refine L2.at ?_ | wp_step))
  refine⟨Code.quiet_builtin _ ↥2,codeAny_builtin KF.entry_class ?_⟩
  unfold Builtin.«object.__class__» shownTypeOf
  repeat (any_goals (first | assumption | (with_reducible refine wpAny_loadPart_at hx ?_;rw [hc]) | wp_step))
theorem xN{nv:Value}{Q:Unit→Shared→Prop}(X:K.In h)(Z:p4 K D)(hx:h.get? a=some o)(hc:o.cls=.ref D)(hq:Q () ⟨h,g,d,t,os⟩):
    wpAny (model prog w) A (checkBuiltinCall "BaseException.__getattribute__" ⟨[.ref a,nv],[]⟩) Q E ⟨h,g,d,t,os⟩:=by
  have L3:=looks_mroIn (M:=model prog w) X Z.mb
  have hk:builtinKind "BaseException.__getattribute__"=some .slot:=by decide+kernel
  have hs:splitId "BaseException.__getattribute__"=some ("BaseException","__getattribute__"):=by decide+kernel
  have ha:=F.args_bexc_ga (.ref a) nv
  simp only [checkBuiltinCall,hk,hs]
  refine wpAny_bind ?_
  unfold isInstance
  repeat (first | (with_reducible refine wpAny_loadPart_at hx ?_;rw [hc]) | with_reducible refine L3.at ?_ | wp_step)
  exact hq
theorem DO{tk:Tok}{Q:Value→Shared→Prop}(X:K.In h)(Z:p4 K D)(hx:h.get? a=some o)(hc:o.cls=.ref D)(hq:Q (.ref D) ⟨h,g,d,t,os⟩):
    wpAny (model prog w) A (getAttrBy (.ref a) (.str "__class__" tk) false) Q E ⟨h,g,d,t,os⟩:=by
  have L1:=looks_findIn (M:=model prog w) X Z.ga
  have L2:=looks_findIn (M:=model prog w) X Z.gt
  have L3:=looks_mroIn (M:=model prog w) X Z.mb
  have f3:=F.excAttr_ValueError.ga.bind (.ref a)
  have hx2:(Value.builtin "BaseException.__getattribute__"==Value.builtin "object.__getattribute__")=false:=by decide+kernel
  have hx1:(onTheHeap (Value.ref D)&&Value.builtin "BaseException.__getattribute__"==Value.builtin "object.__getattribute__")=false:=by rw [hx2,Bool.and_false]
  repeat (any_goals (first | assumption | (with_reducible refine wpAny_loadPart_at hx ?_;rw [hc]) | with_reducible refine L1.at ?_ | with_reducible refine L2.at ?_ | wp_step))
  exact codeAny_call_builtin F.attr_ValueError.ga.plain F.entry_bexc_ga (xN X Z hx hc (xO X Z hx hc (handed_on rfl hq)))
theorem tS(Z:p4 K D):KitX K (.ref a) (.ref D) (fun h=>∃o,h.get? a=some o∧o.cls=.ref D) where
  ty:=fun M h _ ⟨o,h1,h2⟩=>oG h1 h2 M
  it:=fun M h X _=>by
    obtain⟨cd,hc⟩:=Option.isSome_iff_exists.mp Z.cs
    unfold clsIn at hc
    split at hc
    case h_2=>cases hc
    case h_1 ho=>
    intro A' Q' E' s' k q
    unfold isType loadHead
    exact wpAny_bind (wpAny_loadPart (k _ _ (X _ _ ho)) (wpAny_pure q))
  ne:=fun h tp dd its n sl X htp=>by
    obtain⟨cd,hc⟩:=Option.isSome_iff_exists.mp Z.cs
    refine Bool.eq_false_iff.mpr fun q=>?_
    have e:D=tp:=Value.ref.inj (beq_iff_eq.mp q)
    subst e
    unfold clsIn at hc
    split at hc
    case h_2=>cases hc
    case h_1 ho=>
    cases (X _ _ ho).symm.trans htp
  ca:=fun{_ _ _ _ _ s} X ⟨o,h1,h2⟩ k=>by
    obtain⟨hh,g,d,t,os⟩:=s
    unfold getAttr? getAttrBy?
    exact wpAny_bind (wpAny_mkText (wpAny_bind (wpAny_attempt (DO X Z h1 h2 (wpAny_pure k)))))
end
def Hr(C a:Addr)(h:Heap):Prop:=∃o,h.get? a=some o∧o.cls=.ref C
def A_(C a:Addr):HO:=.ext (Hr C a)
section
variable{X:Cx}{pins:List (Addr × Obj)}{σ:L2.St}{H H':Hp}{s:Shared}{n:Str}{j:Nat}
theorem Bw{M:Model}{A:Around}{E:Value→Shared→Prop}{pos:Pos}{Q:Unit→Shared→Prop}(I:aF X pins σ H s)(hN:X.N.Nodup)(hj:X.N[j]?=some n)(lj:X.env.scope.names.lookup n=some .local)
    (h:∀s',aF X pins (σ.set j none) H s'→Q () s'):wpAny M A (do bindName X.env n .none;unbindBehindTheSuite X.env n pos) Q E s:=by
  obtain⟨m,hn,hl⟩:=id I.loc
  have hp:(X.env.scope.kind==.class || (X.env.scope.kind==.module&&X.env.locals != X.env.globals))=false:=by rw [I.ok.kind];rfl
  refine wpAny_nameGoes_keeps lj hn hp fun h' v hn' hs=>h _ ?_
  obtain⟨oL,_,_,hoL,_⟩:=id hn
  have old:∀b o,X.s₀.heap.get? b=some o→h'.get? b=s.heap.get? b:=fun b o e=>hs.2 b (Nat.ne_of_lt (Nat.lt_of_lt_of_le (Heap.lt_size e) I.ok.above))
  refine⟨I.ok,I.os,I.bare,⟨fun b o e k hb hx=>(old b o e).trans (I.base.keep b o e k hb hx),fun b o e k hb hx=>?_,I.base.free,fun b o e hx=>?_,I.base.tups,I.base.frzs,I.base.tbls⟩,⟨_,hn',fun i y w e1 e2 e3=>?_⟩,fun y c e=>?_,I.free,I.freeC,fun p hp'=>?_,fun b ob e=>?_,by rw [List.length_set];exact I.len⟩
  · obtain⟨sl,q⟩:=I.base.slot b o e k hb hx
    exact⟨sl,(old b o e).trans q⟩
  · obtain⟨o',q⟩:=I.base.there b o e hx
    exact⟨o',(old b o e).trans q⟩
  · have ij:i≠j:=fun z=>by
      subst z
      by_cases z2:i < σ.length
      · rw [List.getElem?_set_self z2] at e2;cases e2
      · rw [List.getElem?_eq_none (by rw [List.length_set];lia)] at e2;cases e2
    rw [List.getElem?_set_ne (Ne.symm ij)] at e2
    obtain⟨u,r,q⟩:=hl i y w e1 e2 e3
    refine⟨u,r,?_⟩
    have yn:y≠n:=fun z=>ij (pd hN e1 (z ▸ hj))
    rcases q with ⟨k,q⟩ | ⟨k,c,q,z⟩
    · exact .inl ⟨k,(if_neg yn).trans q⟩
    · exact .inr ⟨k,c,q,z.sameBut hs (I.cne y c q)⟩
  · obtain⟨w,z⟩:=I.cell y c e
    exact⟨w,z.sameBut hs (I.cne y c e)⟩
  · obtain⟨e,k,ne,nf,d⟩:=I.pin p hp'
    exact⟨(hs.2 p.1 ne).trans e,k,ne,nf,d⟩
  · refine(I.hok b ob e).stay (fun c w hc q=>(hs.2 c ?_).trans q) (fun _ q=>q) fun _ _ q=>q
    rintro rfl
    have fr:=I.free
    rcases hc with rfl | hc
    · rw [fr] at e;cases e
    · rw [fr] at hc;cases hc
abbrev Cx.inX(X:Cx)(a:Addr):Cx:={X with A:=X.A.mark (some (.ref a)),calm:=false,xe:=fun _ _=>False}
theorem aF.inX(I:aF X pins σ H s)(a:Addr):aF (X.inX a) pins σ H s:=
  ⟨⟨I.ok.mod,I.ok.kind,I.ok.glob,I.ok.blt,I.ok.above,I.ok.inj,I.ok.has,I.ok.cab,fun z=>(by cases z),I.ok.frames,I.ok.stk,I.ok.exf,I.ok.bs,I.ok.bsz,I.ok.noex,I.ok.exfs,I.ok.funs,I.ok.frf⟩,I.os,I.bare,I.base,I.loc,I.cell,I.free,I.freeC,I.pin,I.hok,I.len⟩
theorem aF.outX{a:Addr}(I:aF (X.inX a) pins σ H s)(hd:X.calm=true→X.A.handled=none):aF X pins σ H s:=
  ⟨⟨I.ok.mod,I.ok.kind,I.ok.glob,I.ok.blt,I.ok.above,I.ok.inj,I.ok.has,I.ok.cab,hd,I.ok.frames,I.ok.stk,I.ok.exf,I.ok.bs,I.ok.bsz,I.ok.noex,I.ok.exfs,I.ok.funs,I.ok.frf⟩,I.os,I.bare,I.base,I.loc,I.cell,I.free,I.freeC,I.pin,I.hok,I.len⟩
theorem aF.raised{C a:Addr}{t:Value}{b0 h2:Heap}{g':Array GenState}{d':Drawn}{t':Nat}(I:aF X pins σ H s)(hf:Heap.FlyingW b0 X.stack a (.ref C) t h2)(sl:xC X.stack s.heap h2)(hn:H' a=none)(na:s.heap.get? a=none)(bare:AllBare g')
    (un:CP X.prog X.w (iN X.stack) H H' s.heap b0):aF X pins σ (a_ H' a (A_ C a)) {s with heap:=h2,gens:=g',drawn:=d',toks:=t'}:=by
  obtain⟨u,ok⟩:=un.un hf.1 sl
  obtain⟨oe,vs,he,hc,hd,_⟩:=hf.first
  have nb:∀b o,H' b=some o→b≠a:=fun b o q z=>by subst z;rw [hn] at q;cases q
  refine I.call (ch:=[]) ⟨u.keep,u.slot,fun b o e k hx=>?_,u.there,fun b xs q=>?_,fun b o v q=>?_,fun b ps q=>?_⟩ (fun b o e=>?_) bare (fun b z=>by cases z)
  · rw [ar fun z=>by subst z;rw [na] at e;cases e];exact u.free b o e k hx
  · have:=u.tups b xs q;rw [ar (nb b _ this)];exact this
  · have:=u.frzs b o v q;rw [ar (nb b _ this)];exact this
  · obtain⟨mo,q⟩:=u.tbls b ps q;exact⟨mo,by rw [ar (nb b _ q)];exact q⟩
  · by_cases z:b=a
    · subst z
      rw [az] at e
      cases e
      exact⟨⟨oe,he,hc⟩,⟨oe,he⟩,fun h1 h3 ⟨o,q1,q2⟩ k=>⟨o,k o q1,q2⟩⟩
    · rw [ar z] at e
      exact(ok b o e).stay (fun _ _ _ q=>q) (fun c q=>by rw [ar (nb c _ q)];exact q) fun c xs q=>by rw [ar (nb c _ q)];exact q
end
section
variable{X:Cx}{C Cb f:Addr}{fd:FuncData}{ps:List Str}{k n k0 i j:Nat}{g:En→Prop}{fn B kx nx:Str}{p pos ep bp kp np ap hp tp:Pos}{e:Expr}{es:List Expr}{t:TA}
theorem Ai(hcalm:X.calm=true)(hst:X.stack=X.env::X.outer)(F:au X.prog X.w X.K X.mg X.base (oy X.prog X.w C) k f fd ps (Bb X.K n k0 g))(hr:c9 k X.A)(hg:Gl X fn)(hm:X.mg fn=some (.ref f))(hk:PySem.W.keepIn X.K (.ref f)=true)(hb:ox X.K fd ps [])
    (ha:PA X.nox (e::es) t)(hB:Gl X B)(hmB:X.mg B=some (.ref Cb))(hex:PySem.W.exmOne X.K (.ref C) (.ref Cb)=some true)(nd:X.N.Nodup)(hi:X.N[i]?=some kx)(hj:X.N[j]?=some nx)(li:X.env.scope.names.lookup kx=some .local)(lj:X.env.scope.names.lookup nx=some .local)(ij:i≠j)
    (hs:swapsWith (.Call (.Name fn p) (e::es) [] pos) none ep.line X.env=pure false:=by rfl)(hs2:swapsWith (.Name nx np) (some (.Name kx kp)) ap.line X.env=pure false:=by rfl)
    (hdb:(fn==("__debug__":Str))=false:=by decide)(hdB:(B==("__debug__":Str))=false:=by decide)(hdn:(nx==("__debug__":Str))=false:=by decide)(hdc:(nx==("__classdict__":Str))=false:=by decide)(he:starEach (e::es) X.env=(false,eval e X.env)::starEach es X.env:=by rfl)(hpl:(backTo pos (starEach es X.env)).any (·.1)=false:=by rfl):
    PS X (.Try [.Expr (.Call (.Name fn p) (e::es) [] pos) ep] [.ExceptHandler (some (.Name B bp)) (some nx) [.Assign [.Name kx kp] (.Name nx np) ap] hp] [] [] tp)
      (fun D σ H=>t σ H fun vs H1=>Bb X.K n k0 g vs H1 (fun _ _=>False) E0∧∀a H',Kp H1 H'→H' a=none→D.nx (((σ.set j (some (.ref a))).set i (some (.ref a))).set j none) (a_ H' a (A_ C a))):=by
  intro pins s σ H D I h
  refine wpAny_Try_except (wpAny_execs_cons (wpAny_Expr_any ?_ I.quiet hs))
  refine wpAny_Call_Name_kw (j' I hg hm ?_ hdb)
  refine PySem.W.callWith_K (h₀:=X.base) I.ok.mod.kin hk (wpAny_mono (ha pos pins s σ H _ (I.wish _) h) (fun us s1 ⟨vs,H1,I1,r,q,qD⟩=>⟨I1.kIn,?_⟩) fun _ _ z=>z.elim) he hpl
  have I1:aF X pins σ H1 s1:=I1.unwish
  have hl:us.length=ps.length:=by rw [←r.length];exact F.len _ _ _ _ q
  refine wpAny_call (codeAny_mono (F.run X.A X.stack s1 H1 ⟨us,[]⟩ us vs (fun _ _=>False) E0 hr I1.env0 (by have:=hb s1 us I1.kIn (by rw [List.append_nil];exact hl);rw [List.append_nil] at this;exact this) r q) fun r s' hq=>?_)
  cases r with
  | ok fl=>
    cases fl with
    | ret u=>obtain⟨_,_,_,_,_,_,_,z⟩:=hq;exact z.elim
    | next=>exact False.elim hq
    | brk=>exact False.elim hq
    | cont=>exact False.elim hq
  | error x=>
    obtain⟨a,ta,b0,H',rfl,os,bare,fl,sl,hn,na,kpp,un⟩:=hq
    have hfr:X.A.frames=some (X.env::X.outer):=by rw [I.ok.frames,hst]
    have hf:X.env.frame=some X.env.locals:=by
      rcases I.ok.stk with z | z
      · rw [hst] at z;exact absurd (congrArg List.length z) ↥1
      · exact z.2
    have fl':=fl
    rw [hst] at fl
    refine wpAny_looks_onW hfr hf fl fun h2 held up2=>?_
    have sl2:=jX sl fl'.2.2.1 up2
    refine wpAny_landsW (s:={s' with heap:=h2}) held fun h3 fl3 up3=>?_
    rw [←hst] at fl3 held
    have sl3:=jX sl2 held.2.2.1 up3
    obtain⟨hh,g',d',t',o'⟩:=s'
    have eo:o'=s1.os:=os
    subst eo
    have I3:=I1.raised (h2:=h3) (g':=g') (d':=d') (t':=t') fl3 sl3 hn na bare un
    obtain⟨oe,vs0,e3,c3,_,_⟩:=fl3.first
    refine wpAny_handleBy_cons (codeAny_handlers_test (j' (I3.inX a) hB hmB ?_ hdB)) (by intro z;cases z)
    refine(PySem.W.exm_one (M:=model X.prog X.w) I3.kIn (oG e3 c3 _) hex).at ?_
    show codeAny _ _ _ _ _
    refine codeAny_handlers_suite_as ?_
    refine lands_againW (s:={heap:=h3,gens:=g',drawn:=d',toks:=t',os:=s1.os}) fl3 fun h4 fl4 up4=>?_
    have sl4:=jX sl3 fl3.2.2.1 up4
    have I4:=(I1.raised (h2:=h4) (g':=g') (d':=d') (t':=t') fl4 sl4 hn na bare un)
    refine jZ I4 nd hj (.inl lj) (v:=.ref a) rfl (fun s5 I5=>?_) (.inr lj)
    have hjl:j < σ.length:=by rw [I.len];exact(LG hj).1
    have as:=lY (sx (X:=X.inX a) (pos:=ap) (pos':=kp) nd hi (.inl li) (jR (X:=X.inX a) (pos:=np) hj (.inl lj) hdn hdc) hs2 (.inr li))
    refine wpAny_mono (as pins s5 _ _ {nx:=fun σ' H''=>σ'=(σ.set j (some (.ref a))).set i (some (.ref a))∧H''=a_ H' a (A_ C a),rt:=fun _ _=>False} (I5.inX a) ⟨.ref a,by rw [List.getElem?_set_self hjl],rfl,rfl⟩) (fun fl s6 q6=>?_) fun _ _ z=>z.elim
    cases fl with
    | next=>
      obtain⟨σ6,H6,I6,e6,e7⟩:=q6
      subst e6 e7
      exact Bw (I6.outX I.ok.hd) nd hj lj fun s7 I7=>⟨_,_,I7,qD a _ kpp hn⟩
    | brk=>obtain⟨_,_,_,z⟩:=q6;exact z.elim
    | cont=>obtain⟨_,_,_,z⟩:=q6;exact z.elim
    | ret u=>obtain⟨_,_,_,_,_,z⟩:=q6;exact z.elim
end
section
variable{X:Cx}{C:Addr}{i:Nat}{x c:Str}{p p1 p2 pos:Pos}{v:V}{u:Value}{b:Bool}
theorem yZ(Z:p4 X.K C):dW X (.builtin "isinstance") (fun xs H Q=>∃a v u b,xs=[.ref a,v]∧H a=some (A_ C a)∧(∀u',bx v u'→u'=u)∧PySem.W.kitOne X.K (.ref C) u=some b∧Q (.bl b) H):=by
  intro pins s σ H xs us Q I r h
  obtain⟨a,v,u,b,rfl,ha,hu,hk,q⟩:=h
  obtain⟨u1,u2,rfl,r1,r2⟩:∃u1 u2,us=[u1,u2]∧bx (.ref a) u1∧bx v u2:=by
    cases r with
    | cons p q=>cases q with
      | cons p' q'=>cases q';exact⟨_,_,rfl,p,p'⟩
  cases (show u1=Value.ref a from r1)
  cases hu u2 r2
  obtain⟨o,h1,h2⟩:=(show dX X.prog X.w H s.heap a (A_ C a) from I.hok a _ ha).1
  exact PySem.W.kia_one (tS Z) I.kIn ⟨o,h1,h2⟩ hk (fun z=>nomatch z) fun tk=>⟨.bl b,H,I.tok _,rfl,q⟩
def Fu(i:Nat)(C:Addr)(b:Bool):TE:=fun σ H Q=>∃a,σ[i]?=some (some (.ref a))∧H a=some (A_ C a)∧Q (.bl b) H
theorem zU(Z:p4 X.K C)(hg:Gl X "isinstance")(hm:X.mg "isinstance"=none)(hv:bootBuiltins "isinstance"=some (.builtin "isinstance"))(hx:PE X (.Name x p1) (AW i))(hc:PE X (.Name c p2) (tC v))(hu:∀u',bx v u'→u'=u)(hk:PySem.W.kitOne X.K (.ref C) u=some b)
    (he:starEach [.Name x p1,.Name c p2] X.env=(false,eval (.Name x p1) X.env)::starEach [.Name c p2] X.env:=by rfl)(he2:starEach [.Name c p2] X.env=(false,eval (.Name c p2) X.env)::starEach [] X.env:=by rfl)(hpl:(backTo pos (starEach [.Name c p2] X.env)).any (·.1)=false:=by rfl):
    PE X (.Call (.Name "isinstance" p) [.Name x p1,.Name c p2] [] pos) (Fu i C b):=
  (lT (yZ Z) hg hm hv (eR hx (eR hc jh he2) he) ⋯ ⋯ he hpl).mono fun σ H Q ⟨a,h1,h2,q⟩=>⟨.ref a,h1,a,v,u,b,rfl,h2,hu,hk,q⟩
end
abbrev t3(C:Addr)(b1 b2 b3:Bool):TE:=GJ (nL (Fu 0 C b1) (nL (Fu 0 C b2) (nL (Fu 0 C b3) Cv)))
theorem r8{H:Hp}{l:Addr}{o:HO}(h:H l=none):Kp H (a_ H l o):=fun a u e=>by rw [ar fun z=>by subst z;rw [h] at e;cases e];exact e
open Classical in
def Fq(n k0:Nat)(g:En→Prop):FM:=fun as=>if as.length=n∧mG (as.map some)=true∧g (as.map some++List.replicate k0 none) then some (.d (.bool true),as) else none
theorem D6{n k0:Nat}{g:En→Prop}{as:List Sv}(h1:as.length=n)(h2:mG (as.map some)=true)(h3:g (as.map some++List.replicate k0 none)):Fq n k0 g as=some (.d (.bool true),as):=if_pos ⟨h1,h2,h3⟩
section
variable{K:⇑0}
theorem DN{n k0:Nat}{g:En→Prop}{vs:List V}{H H':Hp}{Q:VK}{E:XK}(h:bo K n (Fq n k0 g) vs H Q E)(kp:Kp H H'):Q (.bl true) H':=by
  obtain⟨hl,F,as,r,as',R,nN,hm,nr,q⟩:=h
  unfold Fq at hm
  split at hm
  case isFalse=>cases hm
  case isTrue hc=>
  cases hm
  have no:∀{a:Addr} {Z:Hp},¬cn (vs.map some) (as.map some) Z a:=fun z=>ke hc.2.1 z
  have nol:∀(i:Nat) (xs:List PyData),(as.map some)[i]?≠some (some (.l xs)):=fun i xs z=>by have:=List.all_eq_true.mp hc.2.1 _ (LK z);cases this
  have non:∀(i:Nat) (xs:List (List PyData)),(as.map some)[i]?≠some (some (.n xs)):=fun i xs z=>by have:=List.all_eq_true.mp hc.2.1 _ (LK z);cases this
  refine q F H' (.bl true) ⟨aC.refl _,fun a z=>?_,fun _ _ z _ _=>z,fun a vs z=>⟨vs,kp a _ z⟩,fun a o z _=>kp a o z,fun _=>Iff.rfl,fun a z=>(no z).elim,fun _ _ z _ _=>z⟩ ⟨fun a o z=>kp a o (R.sm a o z),R.len,R.dat,fun i xs z=>(nol i xs z).elim,fun i xs z=>(non i xs z).elim,fun i j a z=>(no ⟨i,z⟩).elim⟩ (show DA K F (.bool true) (.bl true) from gg.mpr rfl)
  cases e:H a with
  | none=>rfl
  | some o=>rw [kp a o e] at z;cases z
theorem AR{n k0:Nat}{g:En→Prop}{vs:List V}{H:Hp}{Q Q':VK}{E E':XK}(h:bo K n (Fq n k0 g) vs H Q E):Bb K n k0 g vs H Q' E':=by
  obtain⟨hl,F,as,r,as',R,nN,hm,nr,q⟩:=h
  unfold Fq at hm
  split at hm
  case isFalse=>cases hm
  case isTrue hc=>exact⟨hl,F,as,R,hc.2.1,hc.2.2⟩
end
theorem b_.len{K:⇑0}{σ:L2.St}{H0 F H:Hp}{e:En}:∀{rs:List Rv} {vs:List V},b_ K σ H0 F H e rs vs→vs.length=rs.length
  | [],vs,h=>by rw [show vs=[] from h];rfl
  | r::rs,vs,h=>by
    obtain⟨v,ws,rfl,_,h2⟩:=h
    rw [List.length_cons,List.length_cons,b_.len h2]
theorem xa{K:⇑0}{σ:L2.St}{H0 F H:Hp}{e:En}:∀{ds:List PyData} {vs:List V},b_ K σ H0 F H e (ds.map Rv.d) vs→∀(i:Nat) (x:PyData),ds[i]?=some x→∃v,vs[i]?=some v∧DA K F x v
  | [],vs,_,i,x,h=>by simp at h
  | d::ds,vs,h,i,x,hi=>by
    obtain⟨v,ws,rfl,h1,h2⟩:=h
    cases i with
    | zero=>simp at hi;subst hi;exact⟨v,rfl,h1⟩
    | succ i=>exact xa h2 i x (by simpa using hi)
theorem EQ{K:⇑0}{σ:L2.St}{H0 F H:Hp}{e:En}{ds:List PyData}{vs:List V}(sm:aC F H)(h:b_ K σ H0 F H e (ds.map Rv.d) vs):bc K F H (vs.map some) ((ds.map Sv.d).map some)∧mG ((ds.map Sv.d).map some)=true:=by
  have no:mG ((ds.map Sv.d).map some)=true:=by
    unfold mG
    rw [List.all_eq_true]
    intro s hs
    obtain⟨y,hy,rfl⟩:=LI hs
    obtain⟨x,_,rfl⟩:=LI hy
    rfl
  refine⟨⟨sm,by have:=h.len;simp at this ⊢;exact this,fun i x q=>?_,fun i xs q=>(ke (σ:=(ds.map fun _=>some (V.ref 0))) (H:=H) (a:=0) no ?_).elim,fun i xs q=>?_,fun i j a z=>(ke no ⟨i,z⟩).elim⟩,no⟩
  · rw [List.getElem?_map,List.getElem?_map] at q
    obtain⟨y,hy,e1⟩:=LF q
    obtain⟨z,hz,e2⟩:=LF hy
    cases e2;cases e1
    obtain⟨v,hv,hd⟩:=xa h i x hz
    exact⟨v,by rw [List.getElem?_map,hv];rfl,hd⟩
  · have:=List.all_eq_true.mp no _ (LK q);cases this
  · have:=List.all_eq_true.mp no _ (LK q);cases this
section
variable{X:Cx}{K:⇑0}{C:Addr}{x:Str}{p pos rp:Pos}{e:Expr}{fs:FA}
theorem AE(hcalm:X.calm=true)(hg:Gl X x)(hm:X.mg x=some (.ref C))(hC:PySem.W.excIn X.K C yx "ValueError.__new__"=true)(hx:rD X C)(ha:PA X.nox [e] (fA K fs))
    (hdb:(x==("__debug__":Str))=false:=by decide)(he:starEach [e] X.env=[(false,eval e X.env)]:=by rfl):
    PS X (.Raise (some (.Call (.Name x p) [e] [] pos)) none rp) (fR X.H₀ K fun e=>∃(rs:List Rv) (e':En),fs e=some (rs,e')∧rs.length=1):=
  PS.mono (Ak hcalm hg hm hC hx (PA.nox ha) hdb he) fun D σ H ⟨F,e,R,no,kp,rs,e',he,hl⟩=>⟨F,e,rs,e',R,he,fun F' H' vs x R' A=>⟨by rw [A.len,hl];decide,fun a o h=>x.tmp a o (kp a o h) (ke no)⟩⟩
end
section
variable{P:Program}{w:World}{K:⇑0}{mg:Str→Option Value}{base:Heap}{N ps:List Str}{qual fn:Str}{scope:Scope}{fa f:Addr}{cd:Value}{A:Around}{outer:List Env}{s:Shared}{H:Hp}{E:XK}{C:Addr}{st:Stmt}{fd:FuncData}{k n k0:Nat}{g:En→Prop}{p pos ep:Pos}{e:Expr}{es:List Expr}{fs:FA}
theorem Cm(h:aT K mg fn st f fd ps)(F:au P w K mg base (oy P w C) k f fd ps (Bb K n k0 g))(hr:c9 k (eK (oy P w C) P w K mg base N qual scope fa cd A outer s H E).A)(hg:Gl (eK (oy P w C) P w K mg base N qual scope fa cd A outer s H E) fn)
    (ha:PA (eK (oy P w C) P w K mg base N qual scope fa cd A outer s H E).nox (e::es) (fA K fs))(hs:swapsWith (.Call (.Name fn p) (e::es) [] pos) none ep.line (eK (oy P w C) P w K mg base N qual scope fa cd A outer s H E).env=pure false:=by rfl)(hdb:(fn==("__debug__":Str))=false:=by decide)
    (he:starEach (e::es) (eK (oy P w C) P w K mg base N qual scope fa cd A outer s H E).env=(false,eval e (eK (oy P w C) P w K mg base N qual scope fa cd A outer s H E).env)::starEach es (eK (oy P w C) P w K mg base N qual scope fa cd A outer s H E).env:=by rfl)(hpl:(backTo pos (starEach es (eK (oy P w C) P w K mg base N qual scope fa cd A outer s H E).env)).any (·.1)=false:=by rfl):
    PS (eK (oy P w C) P w K mg base N qual scope fa cd A outer s H E) (.Expr (.Call (.Name fn p) (e::es) [] pos) ep) (fR H K fun e=>∃(ds:List PyData) (e':En),fs e=some (ds.map Rv.d,e')∧ds.length=n∧g ((ds.map Sv.d).map some++List.replicate k0 none)):=by
  intro pins s0 σ H0 D I ⟨F0,en,R,no,kp,ds,e',hfs,hl,hg'⟩
  refine wpAny_Expr_any ?_ I.quiet hs
  refine wpAny_Call_Name_kw (j' I hg h.m ?_ hdb)
  refine PySem.W.callWith_K (h₀:=base) I.ok.mod.kin h.F.kp (wpAny_mono (ha pos pins s0 σ H0 (fun vs H1=>Bb K n k0 g vs H1 (fun _ _=>False) E0∧Kp H H1) (I.wish _) ⟨F0,en,_,e',R,hfs,fun F' H' vs x R' A'=>?_⟩) (fun us s1 ⟨vs,H1,I1,r,q,kq⟩=>⟨I1.kIn,?_⟩) fun _ _ z=>z.elim) he hpl
  · obtain⟨rr,nn⟩:=EQ R'.sm A'
    exact⟨⟨by rw [A'.len,List.length_map];exact hl,F',ds.map Sv.d,rr,nn,hg'⟩,fun a o z=>x.tmp a o (kp a o z) (ke no)⟩
  · have I1:=I1.unwish
    have hl':us.length=ps.length:=by rw [←r.length];exact F.len _ _ _ _ q
    refine wpAny_call (codeAny_mono (F.run _ _ s1 H1 ⟨us,[]⟩ us vs (fun _ _=>False) E0 hr I1.env0 (by have:=h.b s1 us I1.kIn (by rw [List.append_nil];exact hl');rw [List.append_nil] at this;exact this) r q) fun r s' hq=>?_)
    cases r with
    | ok fl=>
      cases fl with
      | ret u=>obtain⟨_,_,_,_,_,_,_,z⟩:=hq;exact z.elim
      | next=>exact False.elim hq
      | brk=>exact False.elim hq
      | cont=>exact False.elim hq
    | error y=>exact BX I1 kq hq
end
section
variable{X:Cx}{C:Addr}{i:Nat}{x:Str}{p p1 p2 pos:Pos}{vs:List V}{us:List Value}{b:Bool}{cs:List Expr}{ctx:Nat}
theorem yY(Z:p4 X.K C):dW X (.builtin "isinstance") (fun xs H Q=>∃a tp vs us b,xs=[.ref a,.ref tp]∧H a=some (A_ C a)∧H tp=some (.tup vs)∧(∀us',aU vs us'→us'=us)∧PySem.W.kitAny X.K (.ref C) us=some b∧Q (.bl b) H):=by
  intro pins s σ H xs ws Q I r h
  obtain⟨a,tp,vs,us,b,rfl,ha,ht,hu,hk,q⟩:=h
  obtain⟨u1,u2,rfl,r1,r2⟩:∃u1 u2,ws=[u1,u2]∧bx (.ref a) u1∧bx (.ref tp) u2:=by
    cases r with
    | cons p q=>cases q with
      | cons p' q'=>cases q';exact⟨_,_,rfl,p,p'⟩
  cases (show u1=Value.ref a from r1)
  cases (show u2=Value.ref tp from r2)
  obtain⟨o,h1,h2⟩:=(show dX X.prog X.w H s.heap a (A_ C a) from I.hok a _ ha).1
  obtain⟨_,its,hv,o',g1,g2,n,g3,g4⟩:=(show dX X.prog X.w H s.heap tp (.tup vs) from I.hok tp _ ht)
  have eu:=hu its hv
  subst eu
  obtain⟨oc,od,odt,osl⟩:=o'
  have g2:oc=.type "tuple":=g2
  have g3:odt=.seq its.toArray n:=g3
  subst g2 g3
  exact PySem.W.kia_tup (tS Z) I.kIn ⟨o,h1,h2⟩ g1 hk (fun z=>nomatch z) fun tk=>⟨.bl b,H,I.tok _,rfl,q⟩
def GI(i:Nat)(C:Addr)(vs:List V)(b:Bool):TE:=fun σ H Q=>∃a,σ[i]?=some (some (.ref a))∧H a=some (A_ C a)∧∀p,H p=none→Q (.bl b) (a_ H p (.tup vs))
theorem Ep(Z:p4 X.K C)(hg:Gl X "isinstance")(hm:X.mg "isinstance"=none)(hv:bootBuiltins "isinstance"=some (.builtin "isinstance"))(hx:PE X (.Name x p1) (AW i)){t:TA}(hc:PA X cs t)(ht:∀σ H Q,Q vs H→t σ H Q)(hl:vs.length≤sizeLine)(hu:∀us',aU vs us'→us'=us)(hk:PySem.W.kitAny X.K (.ref C) us=some b)
    (he:starEach [.Name x p1,.Tuple cs ctx p2] X.env=(false,eval (.Name x p1) X.env)::starEach [.Tuple cs ctx p2] X.env:=by rfl)(he2:starEach [.Tuple cs ctx p2] X.env=(false,eval (.Tuple cs ctx p2) X.env)::starEach [] X.env:=by rfl)(hpl:(backTo pos (starEach [.Tuple cs ctx p2] X.env)).any (·.1)=false:=by rfl):
    PE X (.Call (.Name "isinstance" p) [.Name x p1,.Tuple cs ctx p2] [] pos) (GI i C vs b):=
  (lT (yY Z) hg hm hv (eR hx (eR (zY hc) jh he2) he) ⋯ ⋯ he hpl).mono fun σ H Q ⟨a,h1,h2,q⟩=>⟨.ref a,h1,ht _ _ _ ⟨hl,fun z hz=>⟨a,z,vs,us,b,rfl,r8 hz _ _ h2,az,hu,hk,q z hz⟩⟩⟩
end
theorem AB{C a:Addr}{i:Nat}{vs:List V}{D:sY}{H:Hp}{σ:L2.St}(h0:σ[i]?=some (some (.ref a)))(ha:H a=some (A_ C a))(q:∀H',Kp H H'→D.rt (.bl true) H'):
    GM (GH (HH (E7 (tB (Fu i C true))) (tB (GI i C vs false))) (E8 (tC (.bl false))) Dt) (E8 (Fu i C true)) D σ H:=by
  refine⟨a,h0,ha,true,rfl,?_⟩
  refine xT ⟨a,h0,ha,fun p hp=>⟨false,rfl,xT ?_⟩⟩
  exact⟨a,h0,r8 hp _ _ ha,q _ (r8 hp)⟩
end L2
namespace V21
open PySem PySem.Spec PyProof.Rows L2
variable{P:Program}{w:World}{K:W.Frag}{mg:Str→Option Value}{base:Heap}{f:Addr}{fd:FuncData}
local macro_rules|`(tactic|trivial)=>`(tactic|first|exact .inl rfl|exact .inr rfl|assumption)
local macro_rules|`(¬$n:num)=>`(@qw _ _ $n _ _ (by rfl) (by rfl) (by decide))
local macro_rules|`($a∘$b)=>`(@HA _ _ _ _ _ _ $a $b (by rfl))
theorem ni{α:Type u}{β:Type v}{f:α→β}:List.map f []=[]:=rfl
theorem nh{α:Type u}{β:Type v}{f:α→β}{a:α}{l:List α}:List.map f (a::l)=f a::List.map f l:=rfl
theorem m8{α:Type u}{l:List α}:[]++l=l:=rfl
theorem m7{α:Type u}{a:α}{l m:List α}:(a::l)++m=a::(l++m):=rfl
theorem m_{α:Type u}{a:α}{l:List α}:(a::l)[0]?=some a:=rfl
theorem ng{α:Type u}{a:α}{l:List α}{i:Nat}:(a::l)[i+1]?=l[i]?:=rfl
theorem m9{α:Type u}{β:Type v}{a:α}{f:α→Option β}:Option.bind (some a) f=f a:=rfl
theorem nj{α:Type u}{β:Type v}{a:α}{f:α→β}:Option.map f (some a)=some (f a):=rfl
structure hX (mg:Str→Option Value):Prop where
  b_abs:mg "abs"=none
  b_len:mg "len"=none
  b_min:mg "min"=none
  b_max:mg "max"=none
  b_range:mg "range"=none
  b_repr:mg "repr"=none
  b_tuple:mg "tuple"=none
  b_int:mg "int"=none
  b_sorted:mg "sorted"=none
  b_zip:mg "zip"=none
  b_enumerate:mg "enumerate"=none
  b_isinstance:mg "isinstance"=none
  b_sum:mg "sum"=none
  b_ValueError:mg "ValueError"=none
def jB:FS:=(kg (aQ (aq C7 (af 0) (af 1)))
    Dq
    eF)
def cW:FM:=fP 2 0 ([]++[]) jB
theorem dy:ay ["many","most"] ["many","most"] (am bP):=⟨rfl,rfl,rfl,by decide+kernel,rfl,by decide+kernel,by decide+kernel⟩
theorem nV(h:aT K mg "refuse_above" bP f fd ["many","most"])(T:hX mg):au P w K mg base bj 1 f fd ["many","most"] (bo K 2 cW):=by
  have nd:=dy.nd
  exact h.fn dy rfl rfl (fun cdv A outer s H E hr=>(@ao _ _ _ _ _ (@eC _ _ _ _ _ _ _ _ _ _ _ (@bb _ _ _ _ _ _ _ _ _ (@yV _ _) (¬0) (¬1) (a' _))
      (@ao _ _ _ _ _ (@Cf _ _ _))
      (@bH _ _))))
def gJ:En→Prop:=fun e=>∃e',(aQ (aq C7 (af 0) (af 1))) e=some (true,e')∧mG e'=true∧(fun e=>∃(rs:List Rv) (e':En),(aa (G5 (pW rV (af 0)) (vC (.str (" are more than ":Str))) (pW rV (af 1))) aj) e=some (rs,e')∧rs.length=1) e'
theorem mH(h:aT K mg "refuse_above" bP f fd ["many","most"])(T:hX mg){C:Addr}(m_TooMany:mg "TooMany"=some (.ref C))(x_TooMany:W.excIn K C yx "ValueError.__new__"=true):au P w K mg base (oy P w C) 1 f fd ["many","most"] (Bb K 2 0 gJ):=by
  have nd:=dy.nd
  exact h.fnR dy rfl rfl (fun cdv A outer s H E hr=>(Gv (PT.nox (@bb _ _ _ _ _ _ _ _ _ (@yV _ _) (¬0) (¬1) (a' _))) (AE rfl rfl m_TooMany x_TooMany Az ((@Hz _ _ _ _ _ _ _ _ _ (@Dl _ _ _ _ _ (¬0)) (@EF _ _ _ _ _) (@Dl _ _ _ _ _ (¬1)))∘ac) ⋯ rfl)))
def bN:FT:=(aQ (aq (di true) (af 1) (vC (.int 0))))
def cv:FS:=(nW 0 1 (aa (af 1) (aa (aq ba (af 0) (af 1)) aj)))
def iK:FS:=(aG (dG (2 ^ 4200) bN cv)
    (br (aM (g1 u_) (aa (af 0) aj))))
def ci:FM:=fP 2 0 ([0,1]++[]) iK
theorem iw:ay ["one","other"] ["one","other"] (am cj):=⟨rfl,rfl,rfl,by decide+kernel,rfl,by decide+kernel,by decide+kernel⟩
theorem lS(h:aT K mg "common_divisor" cj f fd ["one","other"])(T:hX mg):au P w K mg base bj 1 f fd ["one","other"] (bo K 2 ci):=by
  have nd:=iw.nd
  exact h.fn iw rfl rfl (fun cdv A outer s H E hr=>(@ag _ _ _ _ _ _ _ _ (@gY _ _ _ _ _ _ _ _ _ PassesOwn.never (@bb _ _ _ _ _ _ _ _ _ (@tu _ _ _ rfl hr) (¬1) ae (a' _))
      (@ao _ _ _ _ _ (@As _ _ _ _ _ 0 1 _ _ _ _ _ _ _ _ _ rfl nd rfl rfl ⋯ rfl rfl ((¬1)∘((@a9 _ _ _ _ _ _ _ (¬0) (¬1))∘ac)) ∅ ∅)))
      (@ao _ _ _ _ _ (@aL _ _ _ _ _ (@a8 _ _ _ _ _ _ _ _ _ (@b_abs _ _) ∅ T.b_abs ((¬0)∘ac) ⋯ ⋯ ∅ ∅)))))
def tf:FS:=(aG (aV 2 (bM 2 ci (aa (af 0) (aa (af 1) aj))))
    (aG (kg (aQ (aq Bs (af 1) (vC (.int 0))))
    (aV 2 (pW oJ (af 2)))
    eF)
    (br (bg (aa (aq eh (af 0) (af 2)) (aa (aq eh (af 1) (af 2)) aj))))))
def eA:FM:=fP 2 1 ([2]++(([2]++[])++[])) tf
theorem qX:ay ["top","bottom","divisor"] ["top","bottom"] (am g_):=⟨rfl,rfl,rfl,by decide+kernel,rfl,by decide+kernel,by decide+kernel⟩
theorem x8(h:aT K mg "lowest" g_ f fd ["top","bottom"])(T:hX mg){Jx:Addr}{Jy:FuncData}(IT:aT K mg "common_divisor" cj Jx Jy ["one","other"])(Je:au P w K mg base bj 1 Jx Jy ["one","other"] (bo K 2 ci)):au P w K mg base bj 2 f fd ["top","bottom"] (bo K 2 eA):=by
  have nd:=qX.nd
  exact h.fn qX rfl rfl (fun cdv A outer s H E hr=>(@ag _ _ _ _ _ _ _ _ (@ax _ _ _ _ _ 2 _ _ nd rfl ↥3 (@aP _ _ _ _ _ _ _ _ _ _ _ _ _ _ _ IT Je (hr.mono ⋯) ((¬0)∘((¬1)∘ac)) ∅ ⋯ ∅ ∅) ∅ (by trivial))
      (@ag _ _ _ _ _ _ _ _ (@eC _ _ _ _ _ _ _ _ _ _ _ (@bb _ _ _ _ _ _ _ _ _ (@yW _ _) (¬1) ae (a' _))
      (@ao _ _ _ _ _ (@ax _ _ _ _ _ 2 _ _ nd rfl ↥3 (@nG _ _ _ _ _ (¬2)) ∅ (by trivial)))
      (@bH _ _))
      (@ao _ _ _ _ _ (@aL _ _ _ _ _ (@aH _ _ _ _ _ _ ((@gU _ _ _ _ _ _ _ (¬0) (¬2))∘((@gU _ _ _ _ _ _ _ (¬1) (¬2))∘ac))))))))
def yU:FS:=(br (bM 2 eA (aa (aq bL (aq bQ (aq bD (af 0) (vC (.int 0))) (aq bD (af 1) (vC (.int 1)))) (aq bQ (aq bD (af 1) (vC (.int 0))) (aq bD (af 0) (vC (.int 1))))) (aa (aq bQ (aq bD (af 0) (vC (.int 1))) (aq bD (af 1) (vC (.int 1)))) aj))))
def oZ:FM:=fP 2 0 [] yU
theorem xk:ay ["one","other"] ["one","other"] (am pL):=⟨rfl,rfl,rfl,by decide+kernel,rfl,by decide+kernel,by decide+kernel⟩
theorem BM(h:aT K mg "plus" pL f fd ["one","other"])(T:hX mg){Jk:Addr}{Jl:FuncData}(I0:aT K mg "lowest" g_ Jk Jl ["top","bottom"])(Jf:au P w K mg base bj 2 Jk Jl ["top","bottom"] (bo K 2 eA)):au P w K mg base bj 3 f fd ["one","other"] (bo K 2 oZ):=by
  have nd:=xk.nd
  exact h.fn xk rfl rfl (fun cdv A outer s H E hr=>(@ao _ _ _ _ _ (@aL _ _ _ _ _ (@aP _ _ _ _ _ _ _ _ _ _ _ _ _ _ _ I0 Jf (hr.mono ⋯) ((@bB _ _ _ _ _ _ _ rfl (@df _ _ _ _ _ _ _ rfl (@aS _ _ _ _ _ _ _ rfl (¬0) ae ↥4) (@aS _ _ _ _ _ _ _ rfl (¬1) ae ↥4)) (@df _ _ _ _ _ _ _ rfl (@aS _ _ _ _ _ _ _ rfl (¬1) ae ↥4) (@aS _ _ _ _ _ _ _ rfl (¬0) ae ↥4)))∘((@df _ _ _ _ _ _ _ rfl (@aS _ _ _ _ _ _ _ rfl (¬0) ae ↥4) (@aS _ _ _ _ _ _ _ rfl (¬1) ae ↥4))∘ac)) ∅ ⋯ ∅ ∅))))
def wy:FS:=(br (bM 2 eA (aa (aq bQ (aq bD (af 0) (vC (.int 0))) (aq bD (af 1) (vC (.int 0)))) (aa (aq bQ (aq bD (af 0) (vC (.int 1))) (aq bD (af 1) (vC (.int 1)))) aj))))
def gj:FM:=fP 2 0 [] wy
theorem uu:ay ["one","other"] ["one","other"] (am jj):=⟨rfl,rfl,rfl,by decide+kernel,rfl,by decide+kernel,by decide+kernel⟩
theorem zM(h:aT K mg "times" jj f fd ["one","other"])(T:hX mg){Jk:Addr}{Jl:FuncData}(I0:aT K mg "lowest" g_ Jk Jl ["top","bottom"])(Jf:au P w K mg base bj 2 Jk Jl ["top","bottom"] (bo K 2 eA)):au P w K mg base bj 3 f fd ["one","other"] (bo K 2 gj):=by
  have nd:=uu.nd
  exact h.fn uu rfl rfl (fun cdv A outer s H E hr=>(@ao _ _ _ _ _ (@aL _ _ _ _ _ (@aP _ _ _ _ _ _ _ _ _ _ _ _ _ _ _ I0 Jf (hr.mono ⋯) ((@df _ _ _ _ _ _ _ rfl (@aS _ _ _ _ _ _ _ rfl (¬0) ae ↥4) (@aS _ _ _ _ _ _ _ rfl (¬1) ae ↥4))∘((@df _ _ _ _ _ _ _ rfl (@aS _ _ _ _ _ _ _ rfl (¬0) ae ↥4) (@aS _ _ _ _ _ _ _ rfl (¬1) ae ↥4))∘ac)) ∅ ⋯ ∅ ∅))))
def oD:FS:=(br (bM 2 eA (aa (aq jK (aq bD (af 0) (vC (.int 1))) (aq bD (af 0) (vC (.int 0)))) (aa (aq bD (af 0) (vC (.int 1))) aj))))
def gS:FM:=fP 1 0 [] oD
theorem nI:ay ["chance"] ["chance"] (am hJ):=⟨rfl,rfl,rfl,by decide+kernel,rfl,by decide+kernel,by decide+kernel⟩
theorem ua(h:aT K mg "one_less" hJ f fd ["chance"])(T:hX mg){Jk:Addr}{Jl:FuncData}(I0:aT K mg "lowest" g_ Jk Jl ["top","bottom"])(Jf:au P w K mg base bj 2 Jk Jl ["top","bottom"] (bo K 2 eA)):au P w K mg base bj 3 f fd ["chance"] (bo K 1 gS):=by
  have nd:=nI.nd
  exact h.fn nI rfl rfl (fun cdv A outer s H E hr=>(@ao _ _ _ _ _ (@aL _ _ _ _ _ (@aP _ _ _ _ _ _ _ _ _ _ _ _ _ _ _ I0 Jf (hr.mono ⋯) ((@ug _ _ _ _ _ _ _ (@aS _ _ _ _ _ _ _ rfl (¬0) ae ↥4) (@aS _ _ _ _ _ _ _ rfl (¬0) ae ↥4))∘((@aS _ _ _ _ _ _ _ rfl (¬0) ae ↥4)∘ac)) ∅ ⋯ ∅ ∅))))
def mB:FI:=(fW (af 0))
def iL:FS:=(aV 1 (bM 2 oZ (aa (af 1) (aa (af 2) aj))))
def wz:FS:=(aG (aV 1 (vC (.tuple [.int (0),.int (1)])))
    (aG (cN ([2]++[1]) mB (ah 2) iL)
    (br (af 1))))
def kd:FM:=fP 1 2 ([1]++(([2]++[1])++[])) wz
theorem uv:ay ["row","amount","part"] ["row"] (am kj):=⟨rfl,rfl,rfl,by decide+kernel,rfl,by decide+kernel,by decide+kernel⟩
theorem zN(h:aT K mg "total" kj f fd ["row"])(T:hX mg){Lc:Addr}{Ld:FuncData}(KP:aT K mg "plus" pL Lc Ld ["one","other"])(KZ:au P w K mg base bj 3 Lc Ld ["one","other"] (bo K 2 oZ)){g_ZERO:Addr}(m_ZERO:mg "ZERO"=some (.ref g_ZERO))(c_ZERO:∀F,DA K F (.tuple [.int (0),.int (1)]) (.ref g_ZERO)):au P w K mg base bj 4 f fd ["row"] (bo K 1 kd):=by
  have nd:=uv.nd
  exact h.fn uv rfl rfl (fun cdv A outer s H E hr=>(@ag _ _ _ _ _ _ _ _ (@ax _ _ _ _ _ 1 _ _ nd rfl ↥3 (@kf _ _ _ (V.ref g_ZERO) _ _ (PyData.tuple [.int (0),.int (1)]) rfl m_ZERO rfl c_ZERO ⋯) ∅ (by trivial))
      (@ag _ _ _ _ _ _ _ _ (@dC _ _ _ _ _ _ _ _ _ _ _ PassesOwn.never rfl (@cY _ _ _ _ _ rfl (¬0)) (@aw _ _ _ 2 _ nd rfl ↥3 (by trivial))
      (@ao _ _ _ _ _ (@ax _ _ _ _ _ 1 _ _ nd rfl ↥3 (@aP _ _ _ _ _ _ _ _ _ _ _ _ _ _ _ KP KZ (hr.mono ⋯) ((¬1)∘((¬2)∘ac)) ∅ ⋯ ∅ ∅) ∅ (by trivial))) ↥5)
      (@ao _ _ _ _ _ (@aL _ _ _ _ _ (¬1))))))
def nF:FI:=(fW (af 0))
def jD:FT:=(aQ (af 1))
def jF:FE:=(af 0)
def qp:FS:=(br (aM (g1 cf) (aa (bG [] 2 nF (bI (aB (ah 0) (aB (ah 1) bz))) jD jF) aj)))
def iR:FM:=fP 1 0 [] qp
theorem pQ:ay ["run"] ["run"] (am gB):=⟨rfl,rfl,rfl,by decide+kernel,rfl,by decide+kernel,by decide+kernel⟩
theorem vz(h:aT K mg "kept_of" gB f fd ["run"])(T:hX mg):au P w K mg base bj 1 f fd ["run"] (bo K 1 iR):=by
  have nd:=pQ.nd
  exact h.fn pQ rfl rfl (fun cdv A outer s H E hr=>(@ao _ _ _ _ _ (@aL _ _ _ _ _ (@a8 _ _ _ _ _ _ _ _ _ (@b_tuple _ _ rfl) ∅ T.b_tuple ((@fZ _ _ _ _ _ _ _ _ _ _ _ _ _ (am gB) ["run"] [] ["tie","truth"] rfl rfl rfl (@cY _ _ _ _ _ rfl (¬0))
        (fun C s0 H0 fp=>(@gX _ _ _ _ _ _ _ _ rfl rfl (@aW _ _ _ _ _ _ _ _ (@aw _ _ _ 0 _ (show List.Nodup (["tie","truth"]:List Str) by decide+kernel) rfl ↥3 (by trivial)) (@aW _ _ _ _ _ _ _ _ (@aw _ _ _ 1 _ (show List.Nodup (["tie","truth"]:List Str) by decide+kernel) rfl ↥3 (by trivial)) (@eB _ _) ∅) ∅) (bf (bf gK)) ∅ ∅)) (fun C s0 H0 fp=>(@lZ _ _ _ _ (@iF _ _ _ _ (¬1) ↥5)))
        (fun C s0 H0 fp=>(¬0)) rfl ↥2 ↥2 ↥2 ↥2 ↥2 ↥2 ↥2 ↥5)∘ac) ⋯ ⋯ ∅ ∅))))
def jP:FI:=(fW (bM 1 iR (aa (af 1) aj)))
def eg:FE:=(aq bD (aq bD (aq bD (af 0) (vC (.int 1))) (af 1)) (vC (.int 3)))
def ly:FS:=(br (aM (g1 (nD qJ)) (aa (bG [(0,"web")] 1 jP (ah 1) bE eg) aj)))
def dc:FM:=fP 2 0 [] ly
theorem kM:ay ["web","run"] ["web","run"] (am cB):=⟨rfl,rfl,rfl,by decide+kernel,rfl,by decide+kernel,by decide+kernel⟩
theorem qd(h:aT K mg "worth_kept" cB f fd ["web","run"])(T:hX mg){Ky:Addr}{Kz:FuncData}(JN:aT K mg "kept_of" gB Ky Kz ["run"])(J':au P w K mg base bj 1 Ky Kz ["run"] (bo K 1 iR)):au P w K mg base bj 2 f fd ["web","run"] (bo K 2 dc):=by
  have nd:=kM.nd
  exact h.fn kM rfl rfl (fun cdv A outer s H E hr=>(@ao _ _ _ _ _ (@aL _ _ _ _ _ (@a8 _ _ _ _ _ _ _ _ _ (@b_sum _ _ _ rfl hr) ∅ T.b_sum ((@fZ _ _ _ _ _ _ _ _ _ _ _ _ _ (am cB) ["web","run"] [(0,"web")] ["tie"] rfl rfl rfl (@cY _ _ _ _ _ rfl (@aP _ _ _ _ _ _ _ _ _ _ _ _ _ _ _ JN J' (hr.mono ⋯) ((¬1)∘ac) ∅ ⋯ ∅ ∅))
        (fun C s0 H0 fp=>(@aw _ _ _ 1 _ (show List.Nodup (["web","tie"]:List Str) by decide+kernel) rfl ↥3 (by trivial))) (fun C s0 H0 fp=>(@eS _ _))
        (fun C s0 H0 fp=>(@aS _ _ _ _ _ _ _ rfl (@aS _ _ _ _ _ _ _ rfl (@aS _ _ _ _ _ _ _ rfl (¬0) ae ↥4) (¬1) ↥4) ae ↥4)) rfl ↥2 ↥2 ↥2 ↥2 ↥2 ↥2 ↥2 ↥5)∘ac) ⋯ ⋯ ∅ ∅))))
def d_:FT:=(aQ (aq (di true) (af 4) (vC (.int (-1)))))
def gf:FS:=(aG (ku (aq bD (af 1) (af 4)) (bI (aB (ah 5) (aB (ah 6) (aB (ah 7) bz)))))
    (aG (cZ (ck bv (af 3) (aa (bg (aa (af 5) (aa (aq bD (af 2) (af 5)) aj))) aj)))
    (aV 4 (yy (aQ (aq bD (af 2) (af 5))) (af 6) (af 7)))))
def kP:FS:=(aG (aV 3 (cO aj))
    (aG (aV 4 (yy (aQ (aq C7 (aM (g1 fU) (aa (af 1) aj)) (vC (.int 0)))) (vC (.int 0)) (vC (.int (-1)))))
    (aG (dG (2 ^ 4200) d_ gf)
    (br (aM (g1 cf) (aa (af 3) aj))))))
def dA:FM:=fP 3 5 ([3]++([4]++((([5]++([6]++([7]++[])))++([]++[4]))++[]))) kP
theorem nJ:ay ["web","tree","answers","run","at","tie","yes","no"] ["web","tree","answers"] (am eO):=⟨rfl,rfl,rfl,by decide+kernel,rfl,by decide+kernel,by decide+kernel⟩
theorem uc(h:aT K mg "run_tree" eO f fd ["web","tree","answers"])(T:hX mg){t_END:Tok}(m_END:mg "END"=some (.int (-1) t_END)):au P w K mg base bj 1 f fd ["web","tree","answers"] (bo K 3 dA):=by
  have nd:=nJ.nd
  exact h.fn nJ rfl rfl (fun cdv A outer s H E hr=>(@ag _ _ _ _ _ _ _ _ (@ax _ _ _ _ _ 3 _ _ nd rfl ↥3 (@bw _ _ _ _ _ ac) ∅ (by trivial))
      (@ag _ _ _ _ _ _ _ _ (@ax _ _ _ _ _ 4 _ _ nd rfl ↥3 (@pC _ _ _ _ _ _ _ _ _ (@bb _ _ _ _ _ _ _ _ _ (@yV _ _) (@a8 _ _ _ _ _ _ _ _ _ (@b_len _ _ rfl) ∅ T.b_len ((¬1)∘ac) ⋯ ⋯ ∅ ∅) ae (a' _)) ae (@kf _ _ _ (V.int (-1)) _ _ (PyData.int (-1)) rfl m_END ⟨_,rfl⟩ (fun _=>bR.mpr rfl) ⋯)) ∅ (by trivial))
      (@ag _ _ _ _ _ _ _ _ (@gY _ _ _ _ _ _ _ _ _ PassesOwn.never (@bb _ _ _ _ _ _ _ _ _ (@tu _ _ _ rfl hr) (¬4) (@kf _ _ _ (V.int (-1)) _ _ (PyData.int (-1)) rfl m_END ⟨_,rfl⟩ (fun _=>bR.mpr rfl) ⋯) (a' _))
      (@ag _ _ _ _ _ _ _ _ (@mL _ _ _ _ _ _ _ _ (@aS _ _ _ _ _ _ _ rfl (¬1) (¬4) ↥4) (@gX _ _ _ _ _ _ _ _ rfl rfl (@aW _ _ _ _ _ _ _ _ (@aw _ _ _ 5 _ nd rfl ↥3 (by trivial)) (@aW _ _ _ _ _ _ _ _ (@aw _ _ _ 6 _ nd rfl ↥3 (by trivial)) (@aW _ _ _ _ _ _ _ _ (@aw _ _ _ 7 _ nd rfl ↥3 (by trivial)) (@eB _ _) ∅) ∅) ∅) (bf (bf (bf gK))) ∅ ∅) ∅ ∅ ∅)
      (@ag _ _ _ _ _ _ _ _ (@cP _ _ _ _ _ (@cX _ _ _ _ _ _ _ _ _ rfl (¬3) ((@aH _ _ _ _ _ _ ((¬5)∘((@aS _ _ _ _ _ _ _ rfl (¬2) (¬5) ↥4)∘ac)))∘ac) ∅ ∅ ∅ ∅ ∅) ∅)
      (@ao _ _ _ _ _ (@ax _ _ _ _ _ 4 _ _ nd rfl ↥3 (@pC _ _ _ _ _ _ _ _ _ (@iF _ _ _ _ (@aS _ _ _ _ _ _ _ rfl (¬2) (¬5) ↥4) ↥5) (¬6) (¬7)) ∅ (by trivial))))))
      (@ao _ _ _ _ _ (@aL _ _ _ _ _ (@a8 _ _ _ _ _ _ _ _ _ (@b_tuple _ _ rfl) ∅ T.b_tuple ((¬3)∘ac) ⋯ ⋯ ∅ ∅)))))))
def iB:FI:=(tR (aa (af 0) (aa (af 1) aj)))
def cL:FS:=(aV 2 (bM 2 gj (aa (af 2) (aa (yy (aQ (af 4)) (af 3) (bM 1 gS (aa (af 3) aj))) aj))))
def mY:FS:=(aG (aV 2 (vC (.tuple [.int (1),.int (1)])))
    (aG (cN (([3]++([4]++[]))++[2]) iB (bI (aB (ah 3) (aB (ah 4) bz))) cL)
    (br (af 2))))
def fJ:FM:=fP 2 3 ([2]++((([3]++([4]++[]))++[2])++[])) mY
theorem l_:ay ["chances","answers","product","chance","truth"] ["chances","answers"] (am fM):=⟨rfl,rfl,rfl,by decide+kernel,rfl,by decide+kernel,by decide+kernel⟩
theorem sr(h:aT K mg "chance_by" fM f fd ["chances","answers"])(T:hX mg){Jz:Addr}{JA:FuncData}(Jt:aT K mg "times" jj Jz JA ["one","other"])(JB:au P w K mg base bj 3 Jz JA ["one","other"] (bo K 2 gj)){Kq:Addr}{Kr:FuncData}(JG:aT K mg "one_less" hJ Kq Kr ["chance"])(JY:au P w K mg base bj 3 Kq Kr ["chance"] (bo K 1 gS)){g_ONE:Addr}(m_ONE:mg "ONE"=some (.ref g_ONE))(c_ONE:∀F,DA K F (.tuple [.int (1),.int (1)]) (.ref g_ONE)):au P w K mg base bj 4 f fd ["chances","answers"] (bo K 2 fJ):=by
  have nd:=l_.nd
  exact h.fn l_ rfl rfl (fun cdv A outer s H E hr=>(@ag _ _ _ _ _ _ _ _ (@ax _ _ _ _ _ 2 _ _ nd rfl ↥3 (@kf _ _ _ (V.ref g_ONE) _ _ (PyData.tuple [.int (1),.int (1)]) rfl m_ONE rfl c_ONE ⋯) ∅ (by trivial))
      (@ag _ _ _ _ _ _ _ _ (@dC _ _ _ _ _ _ _ _ _ _ _ PassesOwn.never rfl (@Ar _ _ _ _ _ _ _ _ _ _ rfl rfl T.b_zip ((¬0)∘((¬1)∘ac)) ∅ ∅) (@gX _ _ _ _ _ _ _ _ rfl rfl (@aW _ _ _ _ _ _ _ _ (@aw _ _ _ 3 _ nd rfl ↥3 (by trivial)) (@aW _ _ _ _ _ _ _ _ (@aw _ _ _ 4 _ nd rfl ↥3 (by trivial)) (@eB _ _) ∅) ∅) (bf (bf gK)) ∅ ∅)
      (@ao _ _ _ _ _ (@ax _ _ _ _ _ 2 _ _ nd rfl ↥3 (@aP _ _ _ _ _ _ _ _ _ _ _ _ _ _ _ Jt JB (hr.mono ⋯) ((¬2)∘((@pC _ _ _ _ _ _ _ _ _ (@iF _ _ _ _ (¬4) ↥5) (¬3) (@aP _ _ _ _ _ _ _ _ _ _ _ _ _ _ _ JG JY (hr.mono ⋯) ((¬3)∘ac) ∅ ⋯ ∅ ∅))∘ac)) ∅ ⋯ ∅ ∅) ∅ (by trivial))) ↥5)
      (@ao _ _ _ _ _ (@aL _ _ _ _ _ (¬2))))))
def iC:FI:=(fW (aq bD (af 0) (vC (.int 1))))
def eP:FE:=(aq bD (af 0) (vC (.int 2)))
def mZ:FS:=(br (bM 2 fJ (aa (bG [] 1 iC (ah 0) bE eP) (aa (af 1) aj))))
def bK:FM:=fP 2 0 [] mZ
theorem ma:ay ["web","answers"] ["web","answers"] (am cu):=⟨rfl,rfl,rfl,by decide+kernel,rfl,by decide+kernel,by decide+kernel⟩
theorem su(h:aT K mg "chance_of" cu f fd ["web","answers"])(T:hX mg){Ka:Addr}{Kb:FuncData}(Ju:aT K mg "chance_by" fM Ka Kb ["chances","answers"])(JK:au P w K mg base bj 4 Ka Kb ["chances","answers"] (bo K 2 fJ)):au P w K mg base bj 5 f fd ["web","answers"] (bo K 2 bK):=by
  have nd:=ma.nd
  exact h.fn ma rfl rfl (fun cdv A outer s H E hr=>(@ao _ _ _ _ _ (@aL _ _ _ _ _ (@aP _ _ _ _ _ _ _ _ _ _ _ _ _ _ _ Ju JK (hr.mono ⋯) ((@fZ _ _ _ _ _ _ _ _ _ _ _ _ _ (am cu) ["web","answers"] [] ["tie"] rfl rfl rfl (@cY _ _ _ _ _ rfl (@aS _ _ _ _ _ _ _ rfl (¬0) ae ↥4))
        (fun C s0 H0 fp=>(@aw _ _ _ 0 _ (show List.Nodup (["tie"]:List Str) by decide+kernel) rfl ↥3 (by trivial))) (fun C s0 H0 fp=>(@eS _ _))
        (fun C s0 H0 fp=>(@aS _ _ _ _ _ _ _ rfl (¬0) ae ↥4)) rfl ↥2 ↥2 ↥2 ↥2 ↥2 ↥2 ↥2 ↥5)∘((¬1)∘ac)) ∅ ⋯ ∅ ∅))))
def fX:FI:=(fW (af 1))
def du:FI:=(fW (bg (aa (vC (.bool true)) (aa (vC (.bool false)) aj))))
def cH:FE:=(aq bL (af 0) (bg (aa (af 1) aj)))
def fY:FI:=(c_ (aa (af 0) aj))
def cE:FS:=(aV 1 (mT [] 2 fX (ah 0) bE du (ah 1) bE cH))
def kz:FS:=(aG (aV 1 (cO (aa (bg aj) aj)))
    (aG (cN ([2]++[1]) fY (ah 2) cE)
    (br (af 1))))
def cM:FM:=fP 1 2 ([1]++(([2]++[1])++[])) kz
theorem jV:ay ["many","rows","at"] ["many"] (am bY):=⟨rfl,rfl,rfl,by decide+kernel,rfl,by decide+kernel,by decide+kernel⟩
theorem pj(h:aT K mg "all_answers" bY f fd ["many"])(T:hX mg):au P w K mg base bj 1 f fd ["many"] (bo K 1 cM):=by
  have nd:=jV.nd
  exact h.fn jV rfl rfl (fun cdv A outer s H E hr=>(@ag _ _ _ _ _ _ _ _ (@ax _ _ _ _ _ 1 _ _ nd rfl ↥3 (@bw _ _ _ _ _ ((@aH _ _ _ _ _ _ ac)∘ac)) ∅ (by trivial))
      (@ag _ _ _ _ _ _ _ _ (@dC _ _ _ _ _ _ _ _ _ _ _ PassesOwn.never rfl (@de _ _ _ _ _ _ _ rfl T.b_range ((¬0)∘ac) ∅) (@aw _ _ _ 2 _ nd rfl ↥3 (by trivial))
      (@ao _ _ _ _ _ (@vI _ _ _ (1) _ _ _ _ _ _ _ _ _ _ _ _ _ _ _ _ _ _ _ _ (am bY) ["many","rows","at"] [] ["row","truth"] rfl rfl rfl (@cY _ _ _ _ _ rfl (¬1))
        (fun C s0 H0 fp=>(@aw _ _ _ 0 _ (show List.Nodup (["row","truth"]:List Str) by decide+kernel) rfl ↥3 (by trivial))) (fun C s0 H0 fp=>(@eS _ _)) (fun C s0 H0 fp=>(@cY _ _ _ _ _ rfl (@aH _ _ _ _ _ _ ((@gW _ _ _ _ _)∘((@gW _ _ _ _ _)∘ac))))) (fun C s0 H0 fp=>(@aw _ _ _ 1 _ (show List.Nodup (["row","truth"]:List Str) by decide+kernel) rfl ↥3 (by trivial))) (fun C s0 H0 fp=>(@eS _ _))
        (fun C s0 H0 fp=>(@bB _ _ _ _ _ _ _ rfl (¬0) (@aH _ _ _ _ _ _ ((¬1)∘ac)))) rfl ↥2 ↥2 ↥2 ↥2 ↥2 ↥2 ↥2 nd rfl rfl ∅ (by intro _ _ _ _ _;rfl) ↥5)) ↥5)
      (@ao _ _ _ _ _ (@aL _ _ _ _ _ (¬1))))))
def gN:FI:=(fW (bM 1 cM (aa (aM (g1 fU) (aa (aq bD (af 0) (vC (.int 1))) aj)) aj)))
def ef:FE:=(bM 2 gj (aa (bM 2 bK (aa (af 0) (aa (af 2) aj))) (aa (bg (aa (bM 2 dc (aa (af 0) (aa (bM 3 dA (aa (af 0) (aa (af 1) (aa (af 2) aj)))) aj))) (aa (vC (.int 1)) aj))) aj)))
def lx:FS:=(aG (cZ (bM 2 cW (aa (aM (g1 fU) (aa (aq bD (af 0) (vC (.int 1))) aj)) (aa (vC (.int (10))) aj))))
    (br (bM 1 kd (aa (bG [(0,"web"),(1,"tree")] 1 gN (ah 2) bE ef) aj))))
def bU:FM:=fP 2 0 ([]++[]) lx
theorem eT:ay ["web","tree"] ["web","tree"] (am bV):=⟨rfl,rfl,rfl,by decide+kernel,rfl,by decide+kernel,by decide+kernel⟩
theorem qc(h:aT K mg "by_answers" bV f fd ["web","tree"])(T:hX mg){IR:Addr}{IS:FuncData}(IH:aT K mg "refuse_above" bP IR IS ["many","most"])(Jp:au P w K mg base bj 1 IR IS ["many","most"] (bo K 2 cW)){Kc:Addr}{Kd:FuncData}(JZ:aT K mg "total" kj Kc Kd ["row"])(Ke:au P w K mg base bj 4 Kc Kd ["row"] (bo K 1 kd)){Jz:Addr}{JA:FuncData}(Jt:aT K mg "times" jj Jz JA ["one","other"])(JB:au P w K mg base bj 3 Jz JA ["one","other"] (bo K 2 gj)){IK:Addr}{IL:FuncData}(II:aT K mg "chance_of" cu IK IL ["web","answers"])(IJ:au P w K mg base bj 5 IK IL ["web","answers"] (bo K 2 bK)){IW:Addr}{IX:FuncData}(IQ:aT K mg "all_answers" bY IW IX ["many"])(IY:au P w K mg base bj 1 IW IX ["many"] (bo K 1 cM)){I_:Addr}{Ja:FuncData}(IV:aT K mg "worth_kept" cB I_ Ja ["web","run"])(Jb:au P w K mg base bj 2 I_ Ja ["web","run"] (bo K 2 dc)){Jq:Addr}{Jr:FuncData}(Jh:aT K mg "run_tree" eO Jq Jr ["web","tree","answers"])(Js:au P w K mg base bj 1 Jq Jr ["web","tree","answers"] (bo K 3 dA)){t_MOST_TIES_BY_ANSWERS:Tok}(m_MOST_TIES_BY_ANSWERS:mg "MOST_TIES_BY_ANSWERS"=some (.int (10) t_MOST_TIES_BY_ANSWERS)):au P w K mg base bj 6 f fd ["web","tree"] (bo K 2 bU):=by
  have nd:=eT.nd
  exact h.fn eT rfl rfl (fun cdv A outer s H E hr=>(@ag _ _ _ _ _ _ _ _ (@cP _ _ _ _ _ (@aP _ _ _ _ _ _ _ _ _ _ _ _ _ _ _ IH Jp (hr.mono ⋯) ((@a8 _ _ _ _ _ _ _ _ _ (@b_len _ _ rfl) ∅ T.b_len ((@aS _ _ _ _ _ _ _ rfl (¬0) ae ↥4)∘ac) ⋯ ⋯ ∅ ∅)∘((@kf _ _ _ (V.int (10)) _ _ (PyData.int (10)) rfl m_MOST_TIES_BY_ANSWERS ⟨_,rfl⟩ (fun _=>bR.mpr rfl) ⋯)∘ac)) ∅ ⋯ ∅ ∅) ∅)
      (@ao _ _ _ _ _ (@aL _ _ _ _ _ (@aP _ _ _ _ _ _ _ _ _ _ _ _ _ _ _ JZ Ke (hr.mono ⋯) ((@fZ _ _ _ _ _ _ _ _ _ _ _ _ _ (am bV) ["web","tree"] [(0,"web"),(1,"tree")] ["answers"] rfl rfl rfl (@cY _ _ _ _ _ rfl (@aP _ _ _ _ _ _ _ _ _ _ _ _ _ _ _ IQ IY (hr.mono ⋯) ((@a8 _ _ _ _ _ _ _ _ _ (@b_len _ _ rfl) ∅ T.b_len ((@aS _ _ _ _ _ _ _ rfl (¬0) ae ↥4)∘ac) ⋯ ⋯ ∅ ∅)∘ac) ∅ ⋯ ∅ ∅))
        (fun C s0 H0 fp=>(@aw _ _ _ 2 _ (show List.Nodup (["web","tree","answers"]:List Str) by decide+kernel) rfl ↥3 (by trivial))) (fun C s0 H0 fp=>(@eS _ _))
        (fun C s0 H0 fp=>(@aP _ _ _ _ _ _ _ _ _ _ _ _ _ _ _ Jt JB (hr.mono ⋯) ((@aP _ _ _ _ _ _ _ _ _ _ _ _ _ _ _ II IJ (hr.mono ⋯) ((¬0)∘((¬2)∘ac)) ∅ ⋯ ∅ ∅)∘((@aH _ _ _ _ _ _ ((@aP _ _ _ _ _ _ _ _ _ _ _ _ _ _ _ IV Jb (hr.mono ⋯) ((¬0)∘((@aP _ _ _ _ _ _ _ _ _ _ _ _ _ _ _ Jh Js (hr.mono ⋯) ((¬0)∘((¬1)∘((¬2)∘ac))) ∅ ⋯ ∅ ∅)∘ac)) ∅ ⋯ ∅ ∅)∘(ae∘ac)))∘ac)) ∅ ⋯ ∅ ∅)) rfl ↥2 ↥2 ↥2 ↥2 ↥2 ↥2 ↥2 ↥5)∘ac) ∅ ⋯ ∅ ∅)))))
def ja:En→Prop:=fun e=>∃(ds:List PyData) (e':En),(aa (aM (g1 fU) (aa (aq bD (af 0) (vC (.int 1))) aj)) (aa (vC (.int (10))) aj)) e=some (ds.map Rv.d,e')∧ds.length=2∧gJ ((ds.map Sv.d).map some++List.replicate 0 none)
theorem pk(h:aT K mg "by_answers" bV f fd ["web","tree"])(T:hX mg){Kc:Addr}{Kd:FuncData}(JZ:aT K mg "total" kj Kc Kd ["row"])(Ke:au P w K mg base bj 4 Kc Kd ["row"] (bo K 1 kd)){Jz:Addr}{JA:FuncData}(Jt:aT K mg "times" jj Jz JA ["one","other"])(JB:au P w K mg base bj 3 Jz JA ["one","other"] (bo K 2 gj)){IK:Addr}{IL:FuncData}(II:aT K mg "chance_of" cu IK IL ["web","answers"])(IJ:au P w K mg base bj 5 IK IL ["web","answers"] (bo K 2 bK)){IW:Addr}{IX:FuncData}(IQ:aT K mg "all_answers" bY IW IX ["many"])(IY:au P w K mg base bj 1 IW IX ["many"] (bo K 1 cM)){I_:Addr}{Ja:FuncData}(IV:aT K mg "worth_kept" cB I_ Ja ["web","run"])(Jb:au P w K mg base bj 2 I_ Ja ["web","run"] (bo K 2 dc)){Jq:Addr}{Jr:FuncData}(Jh:aT K mg "run_tree" eO Jq Jr ["web","tree","answers"])(Js:au P w K mg base bj 1 Jq Jr ["web","tree","answers"] (bo K 3 dA)){t_MOST_TIES_BY_ANSWERS:Tok}(m_MOST_TIES_BY_ANSWERS:mg "MOST_TIES_BY_ANSWERS"=some (.int (10) t_MOST_TIES_BY_ANSWERS)){C:Addr}{IR:Addr}{IS:FuncData}(IH:aT K mg "refuse_above" bP IR IS ["many","most"])(R_refuse_above:au P w K mg base (oy P w C) 1 IR IS ["many","most"] (Bb K 2 0 gJ)):au P w K mg base (oy P w C) 6 f fd ["web","tree"] (Bb K 2 0 ja):=by
  have nd:=eT.nd
  exact h.fnR eT rfl rfl (fun cdv A outer s H E hr=>(EW (Cm IH R_refuse_above (hr.mono ⋯) rfl ((@a8 _ _ _ _ _ _ _ _ _ (@b_len _ _ rfl) ∅ T.b_len ((@aS _ _ _ _ _ _ _ rfl (¬0) ae ↥4)∘ac) ⋯ ⋯ ∅ ∅)∘((@kf _ _ _ (V.int (10)) _ _ (PyData.int (10)) rfl m_MOST_TIES_BY_ANSWERS ⟨_,rfl⟩ (fun _=>bR.mpr rfl) ⋯)∘ac)))))
def wu:FS:=(aG (aV 2 (aq ba (aq bL (aq bL (aq bQ (aq ba (af 0) (vC (.int 2147483647))) (vC (.int 48271))) (aq bQ (aq bQ (vC (.int 7919)) (af 1)) (af 1))) (vC (.int 104729))) (vC (.int 2147483647))))
    (br (aq ba (aq bQ (af 2) (af 2)) (vC (.int 2147483629)))))
def kc:FM:=fP 2 1 ([2]++[]) wu
theorem uo:ay ["_law_cell","_law_k","_law_number"] ["_law_cell","_law_k"] (am l7):=⟨rfl,rfl,rfl,by decide+kernel,rfl,by decide+kernel,by decide+kernel⟩
theorem zJ(h:aT K mg "_law_mixed" l7 f fd ["_law_cell","_law_k"])(T:hX mg):au P w K mg base bj 1 f fd ["_law_cell","_law_k"] (bo K 2 kc):=by
  have nd:=uo.nd
  exact h.fn uo rfl rfl (fun cdv A outer s H E hr=>(@ag _ _ _ _ _ _ _ _ (@ax _ _ _ _ _ 2 _ _ nd rfl ↥3 (@a9 _ _ _ _ _ _ _ (@bB _ _ _ _ _ _ _ rfl (@bB _ _ _ _ _ _ _ rfl (@df _ _ _ _ _ _ _ rfl (@a9 _ _ _ _ _ _ _ (¬0) ae) ae) (@df _ _ _ _ _ _ _ rfl (@df _ _ _ _ _ _ _ rfl ae (¬1)) (¬1))) ae) ae) ∅ (by trivial))
      (@ao _ _ _ _ _ (@aL _ _ _ _ _ (@a9 _ _ _ _ _ _ _ (@df _ _ _ _ _ _ _ rfl (¬2) (¬2)) ae)))))
def gp:FT:=(lb (aQ (aq Bq (af 3) (aq vc (vC (.int 10)) (vC (.int 18))))) (aQ (aq Bs (aM (g1 fU) (aa (af 1) aj)) (vC (.int 900)))))
def j3:FS:=(aG (cZ (ck bv (af 1) (aa (aq ba (af 3) (vC (.int 2147483629))) aj)))
    (aV 3 (aq eh (af 3) (vC (.int 2147483629)))))
def j_:FI:=(c_ (aa (vC (.int 12)) aj))
def iI:FS:=(cZ (ck bv (af 1) (aa (bM 2 kc (aa (bM 2 kc (aa (af 3) (aa (aq bL (aq bQ (vC (.int 3)) (af 4)) (vC (.int 1))) aj))) (aa (aq bL (aq bL (af 4) (af 2)) (vC (.int 2))) aj))) aj)))
def my:FI:=(c_ (aa (aM (g2 za) (aa (aM (g1 fU) (aa (af 0) aj)) (aa (vC (.int 63)) aj))) aj))
def gn:FS:=(aG (aV 3 (aM (g1 u_) (aa (aq bD (af 0) (af 2)) aj)))
    (aG (kg (aQ (aq Bs (af 3) (aq vc (vC (.int 10)) (vC (.int 18)))))
    (cN ([4]++[]) j_ (ah 4) iI)
    eF)
    (aG (dG (2 ^ 4200) gp j3)
    (kg (aQ (aq Bq (af 3) (vC (.int 2147483629))))
    (cZ (ck bv (af 1) (aa (aq ba (af 3) (vC (.int 2147483629))) aj)))
    eF))))
def wo:FS:=(aG (aV 1 (cO aj))
    (aG (cN ([2]++([3]++((([4]++[])++[])++(([]++[3])++([]++[]))))) my (ah 2) gn)
    (br (af 1))))
def lO:FM:=fP 1 4 ([1]++(([2]++([3]++((([4]++[])++[])++(([]++[3])++([]++[])))))++[])) wo
theorem ul:ay ["_law_script","_law_drawn","_law_k","_law_cell","_law_j"] ["_law_script"] (am l6):=⟨rfl,rfl,rfl,by decide+kernel,rfl,by decide+kernel,by decide+kernel⟩
theorem zH(h:aT K mg "_law_draws" l6 f fd ["_law_script"])(T:hX mg){K0:Addr}{K1:FuncData}(Kf:aT K mg "_law_mixed" l7 K0 K1 ["_law_cell","_law_k"])(Kv:au P w K mg base bj 1 K0 K1 ["_law_cell","_law_k"] (bo K 2 kc)):au P w K mg base bj 2 f fd ["_law_script"] (bo K 1 lO):=by
  have nd:=ul.nd
  exact h.fn ul rfl rfl (fun cdv A outer s H E hr=>(@ag _ _ _ _ _ _ _ _ (@ax _ _ _ _ _ 1 _ _ nd rfl ↥3 (@bw _ _ _ _ _ ac) ∅ (by trivial))
      (@ag _ _ _ _ _ _ _ _ (@dC _ _ _ _ _ _ _ _ _ _ _ PassesOwn.never rfl (@de _ _ _ _ _ _ _ rfl T.b_range ((@a8 _ _ _ _ _ _ _ _ _ (@b_min _ _ rfl) ∅ T.b_min ((@a8 _ _ _ _ _ _ _ _ _ (@b_len _ _ rfl) ∅ T.b_len ((¬0)∘ac) ⋯ ⋯ ∅ ∅)∘(ae∘ac)) ⋯ ⋯ ∅ ∅)∘ac) ∅) (@aw _ _ _ 2 _ nd rfl ↥3 (by trivial))
      (@ag _ _ _ _ _ _ _ _ (@ax _ _ _ _ _ 3 _ _ nd rfl ↥3 (@a8 _ _ _ _ _ _ _ _ _ (@b_abs _ _) ∅ T.b_abs ((@aS _ _ _ _ _ _ _ rfl (¬0) (¬2) ↥4)∘ac) ⋯ ⋯ ∅ ∅) ∅ (by trivial))
      (@ag _ _ _ _ _ _ _ _ (@eC _ _ _ _ _ _ _ _ _ _ _ (@bb _ _ _ _ _ _ _ _ _ (@yW _ _) (¬3) (@Dm _ _ _ _ _ _ _ ae ae) (a' _))
      (@ao _ _ _ _ _ (@dC _ _ _ _ _ _ _ _ _ _ _ PassesOwn.never rfl (@de _ _ _ _ _ _ _ rfl T.b_range (ae∘ac) ∅) (@aw _ _ _ 4 _ nd rfl ↥3 (by trivial))
      (@ao _ _ _ _ _ (@cP _ _ _ _ _ (@cX _ _ _ _ _ _ _ _ _ rfl (¬1) ((@aP _ _ _ _ _ _ _ _ _ _ _ _ _ _ _ Kf Kv (hr.mono ⋯) ((@aP _ _ _ _ _ _ _ _ _ _ _ _ _ _ _ Kf Kv (hr.mono ⋯) ((¬3)∘((@bB _ _ _ _ _ _ _ rfl (@df _ _ _ _ _ _ _ rfl ae (¬4)) ae)∘ac)) ∅ ⋯ ∅ ∅)∘((@bB _ _ _ _ _ _ _ rfl (@bB _ _ _ _ _ _ _ rfl (¬4) (¬2)) ae)∘ac)) ∅ ⋯ ∅ ∅)∘ac) ∅ ∅ ∅ ∅ ∅) ∅)) ↥5))
      (@bH _ _))
      (@ag _ _ _ _ _ _ _ _ (@gY _ _ _ _ _ _ _ _ _ PassesOwn.never (@vJ _ _ _ _ (@sE _ _ _ _ _ _ _ _ (@bb _ _ _ _ _ _ _ _ _ (@xF _ _) (¬3) (@Dm _ _ _ _ _ _ _ ae ae) (a' _)) (@sG _ _ _ _ _ (@bb _ _ _ _ _ _ _ _ _ (@yW _ _) (@a8 _ _ _ _ _ _ _ _ _ (@b_len _ _ rfl) ∅ T.b_len ((¬1)∘ac) ⋯ ⋯ ∅ ∅) ae (a' _)))))
      (@ag _ _ _ _ _ _ _ _ (@cP _ _ _ _ _ (@cX _ _ _ _ _ _ _ _ _ rfl (¬1) ((@a9 _ _ _ _ _ _ _ (¬3) ae)∘ac) ∅ ∅ ∅ ∅ ∅) ∅)
      (@ao _ _ _ _ _ (@ax _ _ _ _ _ 3 _ _ nd rfl ↥3 (@gU _ _ _ _ _ _ _ (¬3) ae) ∅ (by trivial)))))
      (@ao _ _ _ _ _ (@eC _ _ _ _ _ _ _ _ _ _ _ (@bb _ _ _ _ _ _ _ _ _ (@xF _ _) (¬3) ae (a' _))
      (@ao _ _ _ _ _ (@cP _ _ _ _ _ (@cX _ _ _ _ _ _ _ _ _ rfl (¬1) ((@a9 _ _ _ _ _ _ _ (¬3) ae)∘ac) ∅ ∅ ∅ ∅ ∅) ∅))
      (@bH _ _)))))) ↥5)
      (@ao _ _ _ _ _ (@aL _ _ _ _ _ (¬1))))))
def uV:FS:=(aG (kg (aQ (aq (di false) (af 0) (cO aj)))
    (br (vC (.int 0)))
    eF)
    (br (ck et (af 0) (aa (vC (.int 0)) aj))))
def aY:FM:=fP 1 0 (([]++[])++[]) uV
theorem xc:ay ["_law_drawn"] ["_law_drawn"] (am f9):=⟨rfl,rfl,rfl,by decide+kernel,rfl,by decide+kernel,by decide+kernel⟩
theorem BG(h:aT K mg "_law_next" f9 f fd ["_law_drawn"])(T:hX mg):au P w K mg base bj 1 f fd ["_law_drawn"] (bo K 1 aY):=by
  have nd:=xc.nd
  exact h.fn xc rfl rfl (fun cdv A outer s H E hr=>(@ag _ _ _ _ _ _ _ _ (@eC _ _ _ _ _ _ _ _ _ _ _ (@bb _ _ _ _ _ _ _ _ _ (@p6 _ _ _ rfl hr) (¬0) (@bw _ _ _ _ _ ac) (a' _))
      (@ao _ _ _ _ _ (@aL _ _ _ _ _ ae))
      (@bH _ _))
      (@ao _ _ _ _ _ (@aL _ _ _ _ _ (@sC _ _ _ _ _ _ _ _ _ rfl (¬0) (ae∘ac) ∅ ∅ ∅ ∅ ∅)))))
def lB:FT:=(aQ (aq (di true) (af 1) (vC (.int 0))))
def nZ:FS:=(nW 0 1 (aa (af 1) (aa (aq ba (af 0) (af 1)) aj)))
def CW:FS:=(aG (dG (2 ^ 4200) lB nZ)
    (br (aM (g1 u_) (aa (af 0) aj))))
def tU:FM:=fP 2 0 ([0,1]++[]) CW
theorem AJ:ay ["_law_one","_law_other"] ["_law_one","_law_other"] (am uh):=⟨rfl,rfl,rfl,by decide+kernel,rfl,by decide+kernel,by decide+kernel⟩
theorem D9(h:aT K mg "_law_gcd" uh f fd ["_law_one","_law_other"])(T:hX mg):au P w K mg base bj 1 f fd ["_law_one","_law_other"] (bo K 2 tU):=by
  have nd:=AJ.nd
  exact h.fn AJ rfl rfl (fun cdv A outer s H E hr=>(@ag _ _ _ _ _ _ _ _ (@gY _ _ _ _ _ _ _ _ _ PassesOwn.never (@bb _ _ _ _ _ _ _ _ _ (@tu _ _ _ rfl hr) (¬1) ae (a' _))
      (@ao _ _ _ _ _ (@As _ _ _ _ _ 0 1 _ _ _ _ _ _ _ _ _ rfl nd rfl rfl ⋯ rfl rfl ((¬1)∘((@a9 _ _ _ _ _ _ _ (¬0) (¬1))∘ac)) ∅ ∅)))
      (@ao _ _ _ _ _ (@aL _ _ _ _ _ (@a8 _ _ _ _ _ _ _ _ _ (@b_abs _ _) ∅ T.b_abs ((¬0)∘ac) ⋯ ⋯ ∅ ∅)))))
def CY:FS:=(aG (aV 2 (bM 2 tU (aa (af 0) (aa (af 1) aj))))
    (br (bg (aa (aq eh (af 0) (af 2)) (aa (aq eh (af 1) (af 2)) aj)))))
def kD:FM:=fP 2 1 ([2]++[]) CY
theorem AK:ay ["_law_top","_law_bottom","_law_common"] ["_law_top","_law_bottom"] (am pF):=⟨rfl,rfl,rfl,by decide+kernel,rfl,by decide+kernel,by decide+kernel⟩
theorem D_(h:aT K mg "_law_low" pF f fd ["_law_top","_law_bottom"])(T:hX mg){Ls:Addr}{Lu:FuncData}(K_:aT K mg "_law_gcd" uh Ls Lu ["_law_one","_law_other"])(Lo:au P w K mg base bj 1 Ls Lu ["_law_one","_law_other"] (bo K 2 tU)):au P w K mg base bj 2 f fd ["_law_top","_law_bottom"] (bo K 2 kD):=by
  have nd:=AK.nd
  exact h.fn AK rfl rfl (fun cdv A outer s H E hr=>(@ag _ _ _ _ _ _ _ _ (@ax _ _ _ _ _ 2 _ _ nd rfl ↥3 (@aP _ _ _ _ _ _ _ _ _ _ _ _ _ _ _ K_ Lo (hr.mono ⋯) ((¬0)∘((¬1)∘ac)) ∅ ⋯ ∅ ∅) ∅ (by trivial))
      (@ao _ _ _ _ _ (@aL _ _ _ _ _ (@aH _ _ _ _ _ _ ((@gU _ _ _ _ _ _ _ (¬0) (¬2))∘((@gU _ _ _ _ _ _ _ (¬1) (¬2))∘ac)))))))
def yP:FS:=(br (bM 2 kD (aa (aq bL (aq bQ (aq bD (af 0) (vC (.int 0))) (aq bD (af 1) (vC (.int 1)))) (aq bQ (aq bD (af 1) (vC (.int 0))) (aq bD (af 0) (vC (.int 1))))) (aa (aq bQ (aq bD (af 0) (vC (.int 1))) (aq bD (af 1) (vC (.int 1)))) aj))))
def oW:FM:=fP 2 0 [] yP
theorem xf:ay ["_law_one","_law_other"] ["_law_one","_law_other"] (am pG):=⟨rfl,rfl,rfl,by decide+kernel,rfl,by decide+kernel,by decide+kernel⟩
theorem BH(h:aT K mg "_law_plus" pG f fd ["_law_one","_law_other"])(T:hX mg){KA:Addr}{KB:FuncData}(Kg:aT K mg "_law_low" pF KA KB ["_law_top","_law_bottom"])(Ko:au P w K mg base bj 2 KA KB ["_law_top","_law_bottom"] (bo K 2 kD)):au P w K mg base bj 3 f fd ["_law_one","_law_other"] (bo K 2 oW):=by
  have nd:=xf.nd
  exact h.fn xf rfl rfl (fun cdv A outer s H E hr=>(@ao _ _ _ _ _ (@aL _ _ _ _ _ (@aP _ _ _ _ _ _ _ _ _ _ _ _ _ _ _ Kg Ko (hr.mono ⋯) ((@bB _ _ _ _ _ _ _ rfl (@df _ _ _ _ _ _ _ rfl (@aS _ _ _ _ _ _ _ rfl (¬0) ae ↥4) (@aS _ _ _ _ _ _ _ rfl (¬1) ae ↥4)) (@df _ _ _ _ _ _ _ rfl (@aS _ _ _ _ _ _ _ rfl (¬1) ae ↥4) (@aS _ _ _ _ _ _ _ rfl (¬0) ae ↥4)))∘((@df _ _ _ _ _ _ _ rfl (@aS _ _ _ _ _ _ _ rfl (¬0) ae ↥4) (@aS _ _ _ _ _ _ _ rfl (¬1) ae ↥4))∘ac)) ∅ ⋯ ∅ ∅))))
def ww:FS:=(br (bM 2 kD (aa (aq bQ (aq bD (af 0) (vC (.int 0))) (aq bD (af 1) (vC (.int 0)))) (aa (aq bQ (aq bD (af 0) (vC (.int 1))) (aq bD (af 1) (vC (.int 1)))) aj))))
def ip:FM:=fP 2 0 [] ww
theorem uq:ay ["_law_one","_law_other"] ["_law_one","_law_other"] (am kh):=⟨rfl,rfl,rfl,by decide+kernel,rfl,by decide+kernel,by decide+kernel⟩
theorem zK(h:aT K mg "_law_times" kh f fd ["_law_one","_law_other"])(T:hX mg){KA:Addr}{KB:FuncData}(Kg:aT K mg "_law_low" pF KA KB ["_law_top","_law_bottom"])(Ko:au P w K mg base bj 2 KA KB ["_law_top","_law_bottom"] (bo K 2 kD)):au P w K mg base bj 3 f fd ["_law_one","_law_other"] (bo K 2 ip):=by
  have nd:=uq.nd
  exact h.fn uq rfl rfl (fun cdv A outer s H E hr=>(@ao _ _ _ _ _ (@aL _ _ _ _ _ (@aP _ _ _ _ _ _ _ _ _ _ _ _ _ _ _ Kg Ko (hr.mono ⋯) ((@df _ _ _ _ _ _ _ rfl (@aS _ _ _ _ _ _ _ rfl (¬0) ae ↥4) (@aS _ _ _ _ _ _ _ rfl (¬1) ae ↥4))∘((@df _ _ _ _ _ _ _ rfl (@aS _ _ _ _ _ _ _ rfl (¬0) ae ↥4) (@aS _ _ _ _ _ _ _ rfl (¬1) ae ↥4))∘ac)) ∅ ⋯ ∅ ∅))))
def yQ:FS:=(br (bg (aa (aq jK (aq bD (af 0) (vC (.int 1))) (aq bD (af 0) (vC (.int 0)))) (aa (aq bD (af 0) (vC (.int 1))) aj))))
def oX:FM:=fP 1 0 [] yQ
theorem xg:ay ["_law_one"] ["_law_one"] (am pH):=⟨rfl,rfl,rfl,by decide+kernel,rfl,by decide+kernel,by decide+kernel⟩
theorem BI(h:aT K mg "_law_rest" pH f fd ["_law_one"])(T:hX mg):au P w K mg base bj 1 f fd ["_law_one"] (bo K 1 oX):=by
  have nd:=xg.nd
  exact h.fn xg rfl rfl (fun cdv A outer s H E hr=>(@ao _ _ _ _ _ (@aL _ _ _ _ _ (@aH _ _ _ _ _ _ ((@ug _ _ _ _ _ _ _ (@aS _ _ _ _ _ _ _ rfl (¬0) ae ↥4) (@aS _ _ _ _ _ _ _ rfl (¬0) ae ↥4))∘((@aS _ _ _ _ _ _ _ rfl (¬0) ae ↥4)∘ac))))))
def yR:FS:=(br (aq (di false) (aM (g1 nB) (aa (af 0) aj)) (aM (g1 nB) (aa (af 1) aj))))
def gR:FM:=fP 2 0 [] yR
theorem xh:ay ["_law_found","_law_due"] ["_law_found","_law_due"] (am pI):=⟨rfl,rfl,rfl,by decide+kernel,rfl,by decide+kernel,by decide+kernel⟩
theorem BJ(h:aT K mg "_law_same" pI f fd ["_law_found","_law_due"])(T:hX mg):au P w K mg base bj 1 f fd ["_law_found","_law_due"] (bo K 2 gR):=by
  have nd:=xh.nd
  exact h.fn xh rfl rfl (fun cdv A outer s H E hr=>(@ao _ _ _ _ _ (@aL _ _ _ _ _ (@wX _ _ _ _ _ _ _ _ _ (@p6 _ _ _ rfl hr) (@a8 _ _ _ _ _ _ _ _ _ (@b_repr _ _ _ rfl hr) ∅ T.b_repr ((¬0)∘ac) ⋯ ⋯ ∅ ∅) (@a8 _ _ _ _ _ _ _ _ _ (@b_repr _ _ _ rfl hr) ∅ T.b_repr ((¬1)∘ac) ⋯ ⋯ ∅ ∅) (a' _)))))
def jA:FS:=(aG (kg (aQ (aq (di false) (af 1) (vC (.int 0))))
    (br (aq bD (cO (aa (bg (aa (vC (.int 1)) (aa (vC (.int 2)) aj))) (aa (bg (aa (vC (.int 1)) (aa (vC (.int 3)) aj))) (aa (bg (aa (vC (.int 2)) (aa (vC (.int 3)) aj))) (aa (bg (aa (vC (.int 1)) (aa (vC (.int 1)) aj))) (aa (bg (aa (vC (.int 0)) (aa (vC (.int 1)) aj))) (aa (bg (aa (vC (.int 3)) (aa (vC (.int 4)) aj))) aj))))))) (aq ba (af 0) (vC (.int 6)))))
    eF)
    (aG (kg (aQ (aq (di false) (af 1) (vC (.int 1))))
    (aG (aV 2 (aq bL (vC (.int 2)) (aq ba (af 0) (vC (.int 9)))))
    (br (bM 2 kD (aa (aq bL (vC (.int 1)) (aq ba (aq eh (af 0) (vC (.int 9))) (aq jK (af 2) (vC (.int 1))))) (aa (af 2) aj)))))
    eF)
    (aG (kg (aQ (aq (di false) (af 1) (vC (.int 2))))
    (aG (aV 2 (aq bL (vC (.int 1)) (aq ba (af 0) (vC (.int 100)))))
    (br (bM 2 kD (aa (aq ba (aq eh (af 0) (vC (.int 100))) (aq bL (af 2) (vC (.int 1)))) (aa (af 2) aj)))))
    eF)
    (br (bg (aa (vC (.int 1)) (aa (vC (.int 1)) aj)))))))
def dq:FM:=fP 2 1 (([]++[])++((([2]++[])++[])++((([2]++[])++[])++[]))) jA
theorem qW:ay ["_law_number","_law_kind","_law_bottom"] ["_law_number","_law_kind"] (am iY):=⟨rfl,rfl,rfl,by decide+kernel,rfl,by decide+kernel,by decide+kernel⟩
theorem xZ(h:aT K mg "_law_chance" iY f fd ["_law_number","_law_kind"])(T:hX mg){KA:Addr}{KB:FuncData}(Kg:aT K mg "_law_low" pF KA KB ["_law_top","_law_bottom"])(Ko:au P w K mg base bj 2 KA KB ["_law_top","_law_bottom"] (bo K 2 kD)):au P w K mg base bj 3 f fd ["_law_number","_law_kind"] (bo K 2 dq):=by
  have nd:=qW.nd
  exact h.fn qW rfl rfl (fun cdv A outer s H E hr=>(@ag _ _ _ _ _ _ _ _ (@eC _ _ _ _ _ _ _ _ _ _ _ (@bb _ _ _ _ _ _ _ _ _ (@p6 _ _ _ rfl hr) (¬1) ae (a' _))
      (@ao _ _ _ _ _ (@aL _ _ _ _ _ (@aS _ _ _ _ _ _ _ rfl (@bw _ _ _ _ _ ((@aH _ _ _ _ _ _ (ae∘(ae∘ac)))∘((@aH _ _ _ _ _ _ (ae∘(ae∘ac)))∘((@aH _ _ _ _ _ _ (ae∘(ae∘ac)))∘((@aH _ _ _ _ _ _ (ae∘(ae∘ac)))∘((@aH _ _ _ _ _ _ (ae∘(ae∘ac)))∘((@aH _ _ _ _ _ _ (ae∘(ae∘ac)))∘ac))))))) (@a9 _ _ _ _ _ _ _ (¬0) ae) ↥4)))
      (@bH _ _))
      (@ag _ _ _ _ _ _ _ _ (@eC _ _ _ _ _ _ _ _ _ _ _ (@bb _ _ _ _ _ _ _ _ _ (@p6 _ _ _ rfl hr) (¬1) ae (a' _))
      (@ag _ _ _ _ _ _ _ _ (@ax _ _ _ _ _ 2 _ _ nd rfl ↥3 (@bB _ _ _ _ _ _ _ rfl ae (@a9 _ _ _ _ _ _ _ (¬0) ae)) ∅ (by trivial))
      (@ao _ _ _ _ _ (@aL _ _ _ _ _ (@aP _ _ _ _ _ _ _ _ _ _ _ _ _ _ _ Kg Ko (hr.mono ⋯) ((@bB _ _ _ _ _ _ _ rfl ae (@a9 _ _ _ _ _ _ _ (@gU _ _ _ _ _ _ _ (¬0) ae) (@ug _ _ _ _ _ _ _ (¬2) ae)))∘((¬2)∘ac)) ∅ ⋯ ∅ ∅))))
      (@bH _ _))
      (@ag _ _ _ _ _ _ _ _ (@eC _ _ _ _ _ _ _ _ _ _ _ (@bb _ _ _ _ _ _ _ _ _ (@p6 _ _ _ rfl hr) (¬1) ae (a' _))
      (@ag _ _ _ _ _ _ _ _ (@ax _ _ _ _ _ 2 _ _ nd rfl ↥3 (@bB _ _ _ _ _ _ _ rfl ae (@a9 _ _ _ _ _ _ _ (¬0) ae)) ∅ (by trivial))
      (@ao _ _ _ _ _ (@aL _ _ _ _ _ (@aP _ _ _ _ _ _ _ _ _ _ _ _ _ _ _ Kg Ko (hr.mono ⋯) ((@a9 _ _ _ _ _ _ _ (@gU _ _ _ _ _ _ _ (¬0) ae) (@bB _ _ _ _ _ _ _ rfl (¬2) ae))∘((¬2)∘ac)) ∅ ⋯ ∅ ∅))))
      (@bH _ _))
      (@ao _ _ _ _ _ (@aL _ _ _ _ _ (@aH _ _ _ _ _ _ (ae∘(ae∘ac)))))))))
def wx:FS:=(br (aq bD (cO (aa (aq ba (af 0) (vC (.int 7))) (aa (aq bL (vC (.int 5)) (aq ba (af 0) (vC (.int 2)))) (aa (aq ba (af 0) (vC (.int 1001))) (aa (aq jK (vC (.int 1000)) (aq ba (af 0) (vC (.int 3)))) aj))))) (aq ba (af 1) (vC (.int 4)))))
def lQ:FM:=fP 2 0 [] wx
theorem ur:ay ["_law_number","_law_kind"] ["_law_number","_law_kind"] (am l8):=⟨rfl,rfl,rfl,by decide+kernel,rfl,by decide+kernel,by decide+kernel⟩
theorem zL(h:aT K mg "_law_worth" l8 f fd ["_law_number","_law_kind"])(T:hX mg):au P w K mg base bj 1 f fd ["_law_number","_law_kind"] (bo K 2 lQ):=by
  have nd:=ur.nd
  exact h.fn ur rfl rfl (fun cdv A outer s H E hr=>(@ao _ _ _ _ _ (@aL _ _ _ _ _ (@aS _ _ _ _ _ _ _ rfl (@bw _ _ _ _ _ ((@a9 _ _ _ _ _ _ _ (¬0) ae)∘((@bB _ _ _ _ _ _ _ rfl ae (@a9 _ _ _ _ _ _ _ (¬0) ae))∘((@a9 _ _ _ _ _ _ _ (¬0) ae)∘((@ug _ _ _ _ _ _ _ ae (@a9 _ _ _ _ _ _ _ (¬0) ae))∘ac))))) (@a9 _ _ _ _ _ _ _ (¬1) ae) ↥4))))
def oO:FI:=(c_ (aa (af 2) aj))
def iJ:FS:=(aG (aV 8 (bM 1 aY (aa (af 0) aj)))
    (aG (aV 9 (aq bD (cO (aa (aq ba (af 8) (af 1)) (aa (vC (.int 0)) (aa (aq ba (af 7) (af 1)) (aa (aq ba (af 8) (af 1)) (aa (aq ba (af 8) (vC (.int 2))) (aa (aq ba (af 8) (af 1)) aj))))))) (af 3)))
    (aG (aV 10 (aq ba (aq bL (aq bL (af 9) (vC (.int 1))) (aq ba (aq eh (af 8) (vC (.int 12))) (aq jK (af 1) (vC (.int 1))))) (af 1)))
    (aG (kg (aQ (aq (di false) (af 3) (vC (.int 4))))
    (ku (bg (aa (vC (.int 0)) (aa (vC (.int 1)) aj))) (bI (aB (ah 9) (aB (ah 10) bz))))
    eF)
    (aG (aV 11 (bM 1 aY (aa (af 0) aj)))
    (aG (aV 12 (bg (aa (aM (g2 za) (aa (af 9) (aa (af 10) aj))) (aa (aM (g2 xP) (aa (af 9) (aa (af 10) aj))) aj))))
    (cZ (ck bv (af 6) (aa (aq bL (af 12) (bg (aa (bM 2 dq (aa (af 11) (aa (af 4) aj))) (aa (bM 2 lQ (aa (aq eh (af 11) (vC (.int 10007))) (aa (af 5) aj))) aj)))) aj)))))))))
def yS:FS:=(aG (aV 3 (aq ba (bM 1 aY (aa (af 0) aj)) (vC (.int 6))))
    (aG (aV 4 (aq ba (bM 1 aY (aa (af 0) aj)) (vC (.int 4))))
    (aG (aV 5 (aq ba (bM 1 aY (aa (af 0) aj)) (vC (.int 4))))
    (aG (aV 6 (cO aj))
    (aG (cN ([7]++([8]++([9]++([10]++((([9]++([10]++[]))++[])++([11]++([12]++[]))))))) oO (ah 7) iJ)
    (br (aM (g1 cf) (aa (af 6) aj))))))))
def jg:FM:=fP 3 10 ([3]++([4]++([5]++([6]++(([7]++([8]++([9]++([10]++((([9]++([10]++[]))++[])++([11]++([12]++[])))))))++[]))))) yS
theorem xi:ay ["_law_drawn","_law_things","_law_many","_law_shape","_law_odds","_law_worths","_law_found","_law_k","_law_number","_law_one","_law_other","_law_cell","_law_ends"] ["_law_drawn","_law_things","_law_many"] (am k9):=⟨rfl,rfl,rfl,by decide+kernel,rfl,by decide+kernel,by decide+kernel⟩
theorem BK(h:aT K mg "_law_ties" k9 f fd ["_law_drawn","_law_things","_law_many"])(T:hX mg){IM:Addr}{IP:FuncData}(IE:aT K mg "_law_next" f9 IM IP ["_law_drawn"])(IF:au P w K mg base bj 1 IM IP ["_law_drawn"] (bo K 1 aY)){JO:Addr}{JP:FuncData}(Jv:aT K mg "_law_chance" iY JO JP ["_law_number","_law_kind"])(JH:au P w K mg base bj 3 JO JP ["_law_number","_law_kind"] (bo K 2 dq)){K2:Addr}{K3:FuncData}(Kw:aT K mg "_law_worth" l8 K2 K3 ["_law_number","_law_kind"])(KN:au P w K mg base bj 1 K2 K3 ["_law_number","_law_kind"] (bo K 2 lQ)):au P w K mg base bj 4 f fd ["_law_drawn","_law_things","_law_many"] (bo K 3 jg):=by
  have nd:=xi.nd
  exact h.fn xi rfl rfl (fun cdv A outer s H E hr=>(@ag _ _ _ _ _ _ _ _ (@ax _ _ _ _ _ 3 _ _ nd rfl ↥3 (@a9 _ _ _ _ _ _ _ (@aP _ _ _ _ _ _ _ _ _ _ _ _ _ _ _ IE IF (hr.mono ⋯) ((¬0)∘ac) ∅ ⋯ ∅ ∅) ae) ∅ (by trivial))
      (@ag _ _ _ _ _ _ _ _ (@ax _ _ _ _ _ 4 _ _ nd rfl ↥3 (@a9 _ _ _ _ _ _ _ (@aP _ _ _ _ _ _ _ _ _ _ _ _ _ _ _ IE IF (hr.mono ⋯) ((¬0)∘ac) ∅ ⋯ ∅ ∅) ae) ∅ (by trivial))
      (@ag _ _ _ _ _ _ _ _ (@ax _ _ _ _ _ 5 _ _ nd rfl ↥3 (@a9 _ _ _ _ _ _ _ (@aP _ _ _ _ _ _ _ _ _ _ _ _ _ _ _ IE IF (hr.mono ⋯) ((¬0)∘ac) ∅ ⋯ ∅ ∅) ae) ∅ (by trivial))
      (@ag _ _ _ _ _ _ _ _ (@ax _ _ _ _ _ 6 _ _ nd rfl ↥3 (@bw _ _ _ _ _ ac) ∅ (by trivial))
      (@ag _ _ _ _ _ _ _ _ (@dC _ _ _ _ _ _ _ _ _ _ _ PassesOwn.never rfl (@de _ _ _ _ _ _ _ rfl T.b_range ((¬2)∘ac) ∅) (@aw _ _ _ 7 _ nd rfl ↥3 (by trivial))
      (@ag _ _ _ _ _ _ _ _ (@ax _ _ _ _ _ 8 _ _ nd rfl ↥3 (@aP _ _ _ _ _ _ _ _ _ _ _ _ _ _ _ IE IF (hr.mono ⋯) ((¬0)∘ac) ∅ ⋯ ∅ ∅) ∅ (by trivial))
      (@ag _ _ _ _ _ _ _ _ (@ax _ _ _ _ _ 9 _ _ nd rfl ↥3 (@aS _ _ _ _ _ _ _ rfl (@bw _ _ _ _ _ ((@a9 _ _ _ _ _ _ _ (¬8) (¬1))∘(ae∘((@a9 _ _ _ _ _ _ _ (¬7) (¬1))∘((@a9 _ _ _ _ _ _ _ (¬8) (¬1))∘((@a9 _ _ _ _ _ _ _ (¬8) ae)∘((@a9 _ _ _ _ _ _ _ (¬8) (¬1))∘ac))))))) (¬3) ↥4) ∅ (by trivial))
      (@ag _ _ _ _ _ _ _ _ (@ax _ _ _ _ _ 10 _ _ nd rfl ↥3 (@a9 _ _ _ _ _ _ _ (@bB _ _ _ _ _ _ _ rfl (@bB _ _ _ _ _ _ _ rfl (¬9) ae) (@a9 _ _ _ _ _ _ _ (@gU _ _ _ _ _ _ _ (¬8) ae) (@ug _ _ _ _ _ _ _ (¬1) ae))) (¬1)) ∅ (by trivial))
      (@ag _ _ _ _ _ _ _ _ (@eC _ _ _ _ _ _ _ _ _ _ _ (@bb _ _ _ _ _ _ _ _ _ (@p6 _ _ _ rfl hr) (¬3) ae (a' _))
      (@ao _ _ _ _ _ (@mL _ _ _ _ _ _ _ _ (@aH _ _ _ _ _ _ (ae∘(ae∘ac))) (@gX _ _ _ _ _ _ _ _ rfl rfl (@aW _ _ _ _ _ _ _ _ (@aw _ _ _ 9 _ nd rfl ↥3 (by trivial)) (@aW _ _ _ _ _ _ _ _ (@aw _ _ _ 10 _ nd rfl ↥3 (by trivial)) (@eB _ _) ∅) ∅) (bf (bf gK)) ∅ ∅) ∅ ∅ ∅))
      (@bH _ _))
      (@ag _ _ _ _ _ _ _ _ (@ax _ _ _ _ _ 11 _ _ nd rfl ↥3 (@aP _ _ _ _ _ _ _ _ _ _ _ _ _ _ _ IE IF (hr.mono ⋯) ((¬0)∘ac) ∅ ⋯ ∅ ∅) ∅ (by trivial))
      (@ag _ _ _ _ _ _ _ _ (@ax _ _ _ _ _ 12 _ _ nd rfl ↥3 (@aH _ _ _ _ _ _ ((@a8 _ _ _ _ _ _ _ _ _ (@b_min _ _ rfl) ∅ T.b_min ((¬9)∘((¬10)∘ac)) ⋯ ⋯ ∅ ∅)∘((@a8 _ _ _ _ _ _ _ _ _ (@b_max _ _ rfl) ∅ T.b_max ((¬9)∘((¬10)∘ac)) ⋯ ⋯ ∅ ∅)∘ac))) ∅ (by trivial))
      (@ao _ _ _ _ _ (@cP _ _ _ _ _ (@cX _ _ _ _ _ _ _ _ _ rfl (¬6) ((@bB _ _ _ _ _ _ _ rfl (¬12) (@aH _ _ _ _ _ _ ((@aP _ _ _ _ _ _ _ _ _ _ _ _ _ _ _ Jv JH (hr.mono ⋯) ((¬11)∘((¬4)∘ac)) ∅ ⋯ ∅ ∅)∘((@aP _ _ _ _ _ _ _ _ _ _ _ _ _ _ _ Kw KN (hr.mono ⋯) ((@gU _ _ _ _ _ _ _ (¬11) ae)∘((¬5)∘ac)) ∅ ⋯ ∅ ∅)∘ac))))∘ac) ∅ ∅ ∅ ∅ ∅) ∅)))))))) ↥5)
      (@ao _ _ _ _ _ (@aL _ _ _ _ _ (@a8 _ _ _ _ _ _ _ _ _ (@b_tuple _ _ rfl) ∅ T.b_tuple ((¬6)∘ac) ⋯ ⋯ ∅ ∅)))))))))
def rZ:FI:=(c_ (aa (af 3) aj))
def n_:FS:=(cZ (ck bv (af 7) (aa (aq bD (cO (aa (vC (.int 20)) (aa (aq bL (vC (.int 1)) (aq ba (bM 1 aY (aa (af 0) aj)) (vC (.int 3)))) (aa (aq ba (bM 1 aY (aa (af 0) aj)) (vC (.int 21))) aj)))) (af 6)) aj)))
def C0:FS:=(aG (aV 3 (aq ba (bM 1 aY (aa (af 0) aj)) (aq bL (af 1) (vC (.int 1)))))
    (aG (aV 4 (aq bQ (aq ba (bM 1 aY (aa (af 0) aj)) (aq bL (af 2) (vC (.int 1)))) (aM (g1 mw) (aa (aq C7 (af 3) (vC (.int 1))) aj))))
    (aG (aV 5 (bM 3 jg (aa (af 0) (aa (aM (g2 xP) (aa (vC (.int 2)) (aa (af 3) aj))) (aa (af 4) aj)))))
    (aG (aV 6 (aq ba (bM 1 aY (aa (af 0) aj)) (vC (.int 3))))
    (aG (aV 7 (cO aj))
    (aG (cN ([8]++[]) rZ (ah 8) n_)
    (aG (aV 9 (aq bD (cO (aa (vC (.int 40)) (aa (aq bL (vC (.int 1)) (aq ba (bM 1 aY (aa (af 0) aj)) (aM (g2 xP) (aa (vC (.int 1)) (aa (af 4) aj))))) (aa (aq ba (bM 1 aY (aa (af 0) aj)) (vC (.int 41))) aj)))) (aq ba (bM 1 aY (aa (af 0) aj)) (vC (.int 3)))))
    (br (bg (aa (af 3) (aa (af 5) (aa (aM (g1 cf) (aa (af 7) aj)) (aa (af 9) aj)))))))))))))
def tW:FM:=fP 3 7 ([3]++([4]++([5]++([6]++([7]++(([8]++[])++([9]++[]))))))) C0
theorem AN:ay ["_law_drawn","_law_most","_law_ties_here","_law_things","_law_many","_law_rows","_law_way","_law_patience","_law_k","_law_asks"] ["_law_drawn","_law_most","_law_ties_here"] (am uj):=⟨rfl,rfl,rfl,by decide+kernel,rfl,by decide+kernel,by decide+kernel⟩
theorem Eb(h:aT K mg "_law_web" uj f fd ["_law_drawn","_law_most","_law_ties_here"])(T:hX mg){J4:Addr}{J5:FuncData}(JJ:aT K mg "_law_ties" k9 J4 J5 ["_law_drawn","_law_things","_law_many"])(JQ:au P w K mg base bj 4 J4 J5 ["_law_drawn","_law_things","_law_many"] (bo K 3 jg)){IM:Addr}{IP:FuncData}(IE:aT K mg "_law_next" f9 IM IP ["_law_drawn"])(IF:au P w K mg base bj 1 IM IP ["_law_drawn"] (bo K 1 aY)):au P w K mg base bj 5 f fd ["_law_drawn","_law_most","_law_ties_here"] (bo K 3 tW):=by
  have nd:=AN.nd
  exact h.fn AN rfl rfl (fun cdv A outer s H E hr=>(@ag _ _ _ _ _ _ _ _ (@ax _ _ _ _ _ 3 _ _ nd rfl ↥3 (@a9 _ _ _ _ _ _ _ (@aP _ _ _ _ _ _ _ _ _ _ _ _ _ _ _ IE IF (hr.mono ⋯) ((¬0)∘ac) ∅ ⋯ ∅ ∅) (@bB _ _ _ _ _ _ _ rfl (¬1) ae)) ∅ (by trivial))
      (@ag _ _ _ _ _ _ _ _ (@ax _ _ _ _ _ 4 _ _ nd rfl ↥3 (@df _ _ _ _ _ _ _ rfl (@a9 _ _ _ _ _ _ _ (@aP _ _ _ _ _ _ _ _ _ _ _ _ _ _ _ IE IF (hr.mono ⋯) ((¬0)∘ac) ∅ ⋯ ∅ ∅) (@bB _ _ _ _ _ _ _ rfl (¬2) ae)) (@a8 _ _ _ _ _ _ _ _ _ (@b_int _ _) ∅ T.b_int ((@wX _ _ _ _ _ _ _ _ _ (@yV _ _) (¬3) ae (a' _))∘ac) ⋯ ⋯ ∅ ∅)) ∅ (by trivial))
      (@ag _ _ _ _ _ _ _ _ (@ax _ _ _ _ _ 5 _ _ nd rfl ↥3 (@aP _ _ _ _ _ _ _ _ _ _ _ _ _ _ _ JJ JQ (hr.mono ⋯) ((¬0)∘((@a8 _ _ _ _ _ _ _ _ _ (@b_max _ _ rfl) ∅ T.b_max (ae∘((¬3)∘ac)) ⋯ ⋯ ∅ ∅)∘((¬4)∘ac))) ∅ ⋯ ∅ ∅) ∅ (by trivial))
      (@ag _ _ _ _ _ _ _ _ (@ax _ _ _ _ _ 6 _ _ nd rfl ↥3 (@a9 _ _ _ _ _ _ _ (@aP _ _ _ _ _ _ _ _ _ _ _ _ _ _ _ IE IF (hr.mono ⋯) ((¬0)∘ac) ∅ ⋯ ∅ ∅) ae) ∅ (by trivial))
      (@ag _ _ _ _ _ _ _ _ (@ax _ _ _ _ _ 7 _ _ nd rfl ↥3 (@bw _ _ _ _ _ ac) ∅ (by trivial))
      (@ag _ _ _ _ _ _ _ _ (@dC _ _ _ _ _ _ _ _ _ _ _ PassesOwn.never rfl (@de _ _ _ _ _ _ _ rfl T.b_range ((¬3)∘ac) ∅) (@aw _ _ _ 8 _ nd rfl ↥3 (by trivial))
      (@ao _ _ _ _ _ (@cP _ _ _ _ _ (@cX _ _ _ _ _ _ _ _ _ rfl (¬7) ((@aS _ _ _ _ _ _ _ rfl (@bw _ _ _ _ _ (ae∘((@bB _ _ _ _ _ _ _ rfl ae (@a9 _ _ _ _ _ _ _ (@aP _ _ _ _ _ _ _ _ _ _ _ _ _ _ _ IE IF (hr.mono ⋯) ((¬0)∘ac) ∅ ⋯ ∅ ∅) ae))∘((@a9 _ _ _ _ _ _ _ (@aP _ _ _ _ _ _ _ _ _ _ _ _ _ _ _ IE IF (hr.mono ⋯) ((¬0)∘ac) ∅ ⋯ ∅ ∅) ae)∘ac)))) (¬6) ↥4)∘ac) ∅ ∅ ∅ ∅ ∅) ∅)) ↥5)
      (@ag _ _ _ _ _ _ _ _ (@ax _ _ _ _ _ 9 _ _ nd rfl ↥3 (@aS _ _ _ _ _ _ _ rfl (@bw _ _ _ _ _ (ae∘((@bB _ _ _ _ _ _ _ rfl ae (@a9 _ _ _ _ _ _ _ (@aP _ _ _ _ _ _ _ _ _ _ _ _ _ _ _ IE IF (hr.mono ⋯) ((¬0)∘ac) ∅ ⋯ ∅ ∅) (@a8 _ _ _ _ _ _ _ _ _ (@b_max _ _ rfl) ∅ T.b_max (ae∘((¬4)∘ac)) ⋯ ⋯ ∅ ∅)))∘((@a9 _ _ _ _ _ _ _ (@aP _ _ _ _ _ _ _ _ _ _ _ _ _ _ _ IE IF (hr.mono ⋯) ((¬0)∘ac) ∅ ⋯ ∅ ∅) ae)∘ac)))) (@a9 _ _ _ _ _ _ _ (@aP _ _ _ _ _ _ _ _ _ _ _ _ _ _ _ IE IF (hr.mono ⋯) ((¬0)∘ac) ∅ ⋯ ∅ ∅) ae) ↥4) ∅ (by trivial))
      (@ao _ _ _ _ _ (@aL _ _ _ _ _ (@aH _ _ _ _ _ _ ((¬3)∘((¬5)∘((@a8 _ _ _ _ _ _ _ _ _ (@b_tuple _ _ rfl) ∅ T.b_tuple ((¬7)∘ac) ⋯ ⋯ ∅ ∅)∘((¬9)∘ac)))))))))))))))
def nE:FI:=(fW (af 1))
def e_:FT:=(aQ (aq (Br false) (af 0) (sU (aq bD (aq bD (af 1) (vC (.int 1))) (af 2)) fK (eJ (vC (.int 2))))))
def fg:FE:=(af 2)
def qm:FS:=(br (aM (g1 fU) (aa (bG [(2,"_law_thing"),(0,"_law_web_here")] 1 nE (ah 2) e_ fg) aj)))
def gu:FM:=fP 3 0 [] qm
theorem pO:ay ["_law_web_here","_law_asked","_law_thing"] ["_law_web_here","_law_asked","_law_thing"] (am gA):=⟨rfl,rfl,rfl,by decide+kernel,rfl,by decide+kernel,by decide+kernel⟩
theorem vx(h:aT K mg "_law_asks_of" gA f fd ["_law_web_here","_law_asked","_law_thing"])(T:hX mg):au P w K mg base bj 1 f fd ["_law_web_here","_law_asked","_law_thing"] (bo K 3 gu):=by
  have nd:=pO.nd
  exact h.fn pO rfl rfl (fun cdv A outer s H E hr=>(@ao _ _ _ _ _ (@aL _ _ _ _ _ (@a8 _ _ _ _ _ _ _ _ _ (@b_len _ _ rfl) ∅ T.b_len ((@fZ _ _ _ _ _ _ _ _ _ _ _ _ _ (am gA) ["_law_web_here","_law_asked","_law_thing"] [(2,"_law_thing"),(0,"_law_web_here")] ["_law_tie"] rfl rfl rfl (@cY _ _ _ _ _ rfl (¬1))
        (fun C s0 H0 fp=>(@aw _ _ _ 2 _ (show List.Nodup (["_law_thing","_law_web_here","_law_tie"]:List Str) by decide+kernel) rfl ↥3 (by trivial))) (fun C s0 H0 fp=>(@lZ _ _ _ _ (@bb _ _ _ _ _ _ _ _ _ (@DK _ _ _ rfl hr) (¬0) (@iq _ _ _ _ _ _ _ _ _ _ rfl (@aS _ _ _ _ _ _ _ rfl (@aS _ _ _ _ _ _ _ rfl (¬1) ae ↥4) (¬2) ↥4) (@ir _ _) (@iu _ _ _ _ ae)) (by with_unfolding_all rfl))))
        (fun C s0 H0 fp=>(¬2)) rfl ↥2 ↥2 ↥2 ↥2 ↥2 ↥2 ↥2 ↥5)∘ac) ⋯ ⋯ ∅ ∅))))
def wH:FI:=(fW (sU (aq bD (aq bD (af 0) (vC (.int 1))) (af 2)) fK (eJ (vC (.int 2)))))
def i5:FS:=(kg (wa (aQ (aq (Br false) (af 5) (af 4))) (aQ (aq Bq (bM 3 gu (aa (af 0) (aa (af 3) (aa (af 5) aj)))) (aq bD (aq bD (af 0) (vC (.int 2))) (af 5)))))
    (br (vC (.bool false)))
    eF)
def qo:FS:=(aG (ku (af 1) (bI (aB (ah 3) (aB (ah 4) bz))))
    (aG (kg (wa (aQ (aq (Br false) (af 2) (af 3))) (aQ (aq Bq (aM (g1 fU) (aa (af 3) aj)) (aq bD (af 0) (vC (.int 3))))))
    (br (vC (.bool false)))
    eF)
    (aG (cN ([5]++([]++[])) wH (ah 5) i5)
    (br (vC (.bool true))))))
def lP:FM:=fP 3 3 (([3]++([4]++[]))++(([]++[])++(([5]++([]++[]))++[]))) qo
theorem AL:ay ["_law_web_here","_law_stand","_law_tie","_law_asked","_law_taken","_law_thing"] ["_law_web_here","_law_stand","_law_tie"] (am ui):=⟨rfl,rfl,rfl,by decide+kernel,rfl,by decide+kernel,by decide+kernel⟩
theorem D'(h:aT K mg "_law_may" ui f fd ["_law_web_here","_law_stand","_law_tie"])(T:hX mg){KC:Addr}{KD:FuncData}(JR:aT K mg "_law_asks_of" gA KC KD ["_law_web_here","_law_asked","_law_thing"])(Kh:au P w K mg base bj 1 KC KD ["_law_web_here","_law_asked","_law_thing"] (bo K 3 gu)):au P w K mg base bj 2 f fd ["_law_web_here","_law_stand","_law_tie"] (bo K 3 lP):=by
  have nd:=AL.nd
  exact h.fn AL rfl rfl (fun cdv A outer s H E hr=>(@ag _ _ _ _ _ _ _ _ (@mL _ _ _ _ _ _ _ _ (¬1) (@gX _ _ _ _ _ _ _ _ rfl rfl (@aW _ _ _ _ _ _ _ _ (@aw _ _ _ 3 _ nd rfl ↥3 (by trivial)) (@aW _ _ _ _ _ _ _ _ (@aw _ _ _ 4 _ nd rfl ↥3 (by trivial)) (@eB _ _) ∅) ∅) (bf (bf gK)) ∅ ∅) ∅ ∅ ∅)
      (@ag _ _ _ _ _ _ _ _ (@eC _ _ _ _ _ _ _ _ _ _ _ (@vJ _ _ _ _ (@wY _ _ _ _ _ _ _ _ (@bb _ _ _ _ _ _ _ _ _ (@DK _ _ _ rfl hr) (¬2) (¬3) (by with_unfolding_all rfl)) (@sI _ _ _ _ _ (@bb _ _ _ _ _ _ _ _ _ (@xF _ _) (@a8 _ _ _ _ _ _ _ _ _ (@b_len _ _ rfl) ∅ T.b_len ((¬3)∘ac) ⋯ ⋯ ∅ ∅) (@aS _ _ _ _ _ _ _ rfl (¬0) ae ↥4) (a' _)))))
      (@ao _ _ _ _ _ (@aL _ _ _ _ _ (@gW _ _ _ _ _)))
      (@bH _ _))
      (@ag _ _ _ _ _ _ _ _ (@dC _ _ _ _ _ _ _ _ _ _ _ PassesOwn.never rfl (@cY _ _ _ _ _ rfl (@iq _ _ _ _ _ _ _ _ _ _ rfl (@aS _ _ _ _ _ _ _ rfl (@aS _ _ _ _ _ _ _ rfl (¬0) ae ↥4) (¬2) ↥4) (@ir _ _) (@iu _ _ _ _ ae))) (@aw _ _ _ 5 _ nd rfl ↥3 (by trivial))
      (@ao _ _ _ _ _ (@eC _ _ _ _ _ _ _ _ _ _ _ (@vJ _ _ _ _ (@wY _ _ _ _ _ _ _ _ (@bb _ _ _ _ _ _ _ _ _ (@DK _ _ _ rfl hr) (¬5) (¬4) (by with_unfolding_all rfl)) (@sI _ _ _ _ _ (@bb _ _ _ _ _ _ _ _ _ (@xF _ _) (@aP _ _ _ _ _ _ _ _ _ _ _ _ _ _ _ JR Kh (hr.mono ⋯) ((¬0)∘((¬3)∘((¬5)∘ac))) ∅ ⋯ ∅ ∅) (@aS _ _ _ _ _ _ _ rfl (@aS _ _ _ _ _ _ _ rfl (¬0) ae ↥4) (¬5) ↥4) (a' _)))))
      (@ao _ _ _ _ _ (@aL _ _ _ _ _ (@gW _ _ _ _ _)))
      (@bH _ _))) ↥5)
      (@ao _ _ _ _ _ (@aL _ _ _ _ _ (@gW _ _ _ _ _)))))))
def oB:FS:=(aG (ku (af 1) (bI (aB (ah 4) (aB (ah 5) bz))))
    (aG (aV 6 (af 5))
    (aG (kg (aQ (af 3))
    (aV 6 (aM (g1 cf) (aa (aM (g1 i_) (aa (aq bL (af 5) (sU (aq bD (aq bD (af 0) (vC (.int 1))) (af 2)) fK (eJ (vC (.int 2))))) aj)) aj)))
    eF)
    (br (bg (aa (aM (g1 cf) (aa (aM (g1 i_) (aa (aq bL (af 4) (bg (aa (af 2) aj))) aj)) aj)) (aa (af 6) aj)))))))
def gP:FM:=fP 4 3 (([4]++([5]++[]))++([6]++(([6]++[])++[]))) oB
theorem qV:ay ["_law_web_here","_law_stand","_law_tie","_law_truth","_law_asked","_law_taken","_law_more"] ["_law_web_here","_law_stand","_law_tie","_law_truth"] (am jT):=⟨rfl,rfl,rfl,by decide+kernel,rfl,by decide+kernel,by decide+kernel⟩
theorem xY(h:aT K mg "_law_behind" jT f fd ["_law_web_here","_law_stand","_law_tie","_law_truth"])(T:hX mg):au P w K mg base bj 1 f fd ["_law_web_here","_law_stand","_law_tie","_law_truth"] (bo K 4 gP):=by
  have nd:=qV.nd
  exact h.fn qV rfl rfl (fun cdv A outer s H E hr=>(@ag _ _ _ _ _ _ _ _ (@mL _ _ _ _ _ _ _ _ (¬1) (@gX _ _ _ _ _ _ _ _ rfl rfl (@aW _ _ _ _ _ _ _ _ (@aw _ _ _ 4 _ nd rfl ↥3 (by trivial)) (@aW _ _ _ _ _ _ _ _ (@aw _ _ _ 5 _ nd rfl ↥3 (by trivial)) (@eB _ _) ∅) ∅) (bf (bf gK)) ∅ ∅) ∅ ∅ ∅)
      (@ag _ _ _ _ _ _ _ _ (@ax _ _ _ _ _ 6 _ _ nd rfl ↥3 (¬5) ∅ (by trivial))
      (@ag _ _ _ _ _ _ _ _ (@eC _ _ _ _ _ _ _ _ _ _ _ (@iF _ _ _ _ (¬3) ↥5)
      (@ao _ _ _ _ _ (@ax _ _ _ _ _ 6 _ _ nd rfl ↥3 (@a8 _ _ _ _ _ _ _ _ _ (@b_tuple _ _ rfl) ∅ T.b_tuple ((@a8 _ _ _ _ _ _ _ _ _ (@b_sorted _ _ rfl) ∅ T.b_sorted ((@bB _ _ _ _ _ _ _ rfl (¬5) (@iq _ _ _ _ _ _ _ _ _ _ rfl (@aS _ _ _ _ _ _ _ rfl (@aS _ _ _ _ _ _ _ rfl (¬0) ae ↥4) (¬2) ↥4) (@ir _ _) (@iu _ _ _ _ ae)))∘ac) ⋯ ⋯ ∅ ∅)∘ac) ⋯ ⋯ ∅ ∅) ∅ (by trivial)))
      (@bH _ _))
      (@ao _ _ _ _ _ (@aL _ _ _ _ _ (@aH _ _ _ _ _ _ ((@a8 _ _ _ _ _ _ _ _ _ (@b_tuple _ _ rfl) ∅ T.b_tuple ((@a8 _ _ _ _ _ _ _ _ _ (@b_sorted _ _ rfl) ∅ T.b_sorted ((@bB _ _ _ _ _ _ _ rfl (¬4) (@aH _ _ _ _ _ _ ((¬2)∘ac)))∘ac) ⋯ ⋯ ∅ ∅)∘ac) ⋯ ⋯ ∅ ∅)∘((¬6)∘ac)))))))))
def jM:FI:=(c_ (aa (aM (g1 fU) (aa (aq bD (af 0) (vC (.int 1))) aj)) aj))
def eZ:FT:=(aQ (bM 3 lP (aa (af 0) (aa (af 1) (aa (af 2) aj)))))
def ff:FE:=(af 2)
def qk:FS:=(br (bG [(0,"_law_web_here"),(1,"_law_stand")] 1 jM (ah 2) eZ ff))
def iP:FM:=fP 2 0 [] qk
theorem pN:ay ["_law_web_here","_law_stand"] ["_law_web_here","_law_stand"] (am gy):=⟨rfl,rfl,rfl,by decide+kernel,rfl,by decide+kernel,by decide+kernel⟩
theorem vw(h:aT K mg "_law_askable" gy f fd ["_law_web_here","_law_stand"])(T:hX mg){Lv:Addr}{Lw:FuncData}(K':aT K mg "_law_may" ui Lv Lw ["_law_web_here","_law_stand","_law_tie"])(Lp:au P w K mg base bj 2 Lv Lw ["_law_web_here","_law_stand","_law_tie"] (bo K 3 lP)):au P w K mg base bj 3 f fd ["_law_web_here","_law_stand"] (bo K 2 iP):=by
  have nd:=pN.nd
  exact h.fn pN rfl rfl (fun cdv A outer s H E hr=>(@ao _ _ _ _ _ (@aL _ _ _ _ _ (@fZ _ _ _ _ _ _ _ _ _ _ _ _ _ (am gy) ["_law_web_here","_law_stand"] [(0,"_law_web_here"),(1,"_law_stand")] ["_law_tie"] rfl rfl rfl (@de _ _ _ _ _ _ _ rfl T.b_range ((@a8 _ _ _ _ _ _ _ _ _ (@b_len _ _ rfl) ∅ T.b_len ((@aS _ _ _ _ _ _ _ rfl (¬0) ae ↥4)∘ac) ⋯ ⋯ ∅ ∅)∘ac) ∅)
        (fun C s0 H0 fp=>(@aw _ _ _ 2 _ (show List.Nodup (["_law_web_here","_law_stand","_law_tie"]:List Str) by decide+kernel) rfl ↥3 (by trivial))) (fun C s0 H0 fp=>(@lZ _ _ _ _ (@iF _ _ _ _ (@aP _ _ _ _ _ _ _ _ _ _ _ _ _ _ _ K' Lp (hr.mono ⋯) ((¬0)∘((¬1)∘((¬2)∘ac))) ∅ ⋯ ∅ ∅) ↥5)))
        (fun C s0 H0 fp=>(¬2)) rfl ↥2 ↥2 ↥2 ↥2 ↥2 ↥2 ↥2 ↥5))))
def qM:FI:=(zm 3)
def j5:FE:=(aM (g1 cf) (aa (af 0) aj))
def iM:FT:=(aQ (aq (di true) (af 4) (cO aj)))
def cK:FS:=(aG (ku (ck et (af 4) (aa (vC (.int 0)) aj)) (bI (aB (ah 5) (aB (ah 6) (aB (ah 7) bz)))))
    (aG (aV 8 (bM 2 iP (aa (af 1) (aa (af 5) aj))))
    (aG (aV 9 (bM 1 aY (aa (af 0) aj)))
    (kg (lb (aQ (aq (di true) (af 8) (cO aj))) (lb (aQ (aq Bs (j2 3) (af 2))) (wa (aQ (aq (di true) (aq ba (af 9) (vC (.int 7))) (vC (.int 6)))) (aQ (aq Bs (af 6) (vC (.int 0)))))))
    (aG (aV 10 (aq bD (af 8) (aq ba (aq eh (af 9) (vC (.int 7))) (aM (g1 fU) (aa (af 8) aj)))))
    (aG (kg (aQ (aq Bq (af 6) (vC (.int 0))))
    (uk 3 (j2 3) (af 6) (zD (nC 1) (zE 7)))
    eF)
    (aG (cZ (ck bv (af 4) (aa (bg (aa (bM 4 gP (aa (af 1) (aa (af 5) (aa (af 10) (aa (vC (.bool true)) aj))))) (aa (j2 3) (aa (vC (.int 0)) aj)))) aj)))
    (aG (cZ (ck bv (af 4) (aa (bg (aa (bM 4 gP (aa (af 1) (aa (af 5) (aa (af 10) (aa (vC (.bool false)) aj))))) (aa (j2 3) (aa (vC (.int 1)) aj)))) aj)))
    (cZ (rA 3 (cO (aa (af 10) (aa (pW oJ (vC (.int 1))) (aa (pW oJ (vC (.int 1))) aj))))))))))
    eF))))
def wq:FS:=(aG (AI 3)
    (aG (aV 4 (cO (aa (bg (aa (bg (aa (bg aj) (aa (bg aj) aj))) (aa (pW oJ (vC (.int 1))) (aa (vC (.int 0)) aj)))) aj)))
    (aG (dG (2 ^ 4200) iM cK)
    (br (aM (g1 cf) (aa (bG [] 1 qM (ah 0) bE j5) aj))))))
def jf:FM:=fP 3 8 ([3]++([4]++((([5]++([6]++([7]++[])))++([8]++([9]++(([10]++(([]++[])++([]++([]++[]))))++[]))))++[]))) wq
theorem um:ay ["_law_drawn","_law_web_here","_law_most","_law_nodes","_law_waiting","_law_stand","_law_parent","_law_side","_law_some","_law_number","_law_tie"] ["_law_drawn","_law_web_here","_law_most"] (am ji):=⟨rfl,rfl,rfl,by decide+kernel,rfl,by decide+kernel,by decide+kernel⟩
theorem zI(h:aT K mg "_law_grown" ji f fd ["_law_drawn","_law_web_here","_law_most"])(T:hX mg){KG:Addr}{KH:FuncData}(JS:aT K mg "_law_askable" gy KG KH ["_law_web_here","_law_stand"])(Ki:au P w K mg base bj 3 KG KH ["_law_web_here","_law_stand"] (bo K 2 iP)){IM:Addr}{IP:FuncData}(IE:aT K mg "_law_next" f9 IM IP ["_law_drawn"])(IF:au P w K mg base bj 1 IM IP ["_law_drawn"] (bo K 1 aY)){KQ:Addr}{KR:FuncData}(JT:aT K mg "_law_behind" jT KQ KR ["_law_web_here","_law_stand","_law_tie","_law_truth"])(J_:au P w K mg base bj 1 KQ KR ["_law_web_here","_law_stand","_law_tie","_law_truth"] (bo K 4 gP)):au P w K mg base bj 4 f fd ["_law_drawn","_law_web_here","_law_most"] (bo K 3 jf):=by
  have nd:=um.nd
  exact h.fn um rfl rfl (fun cdv A outer s H E hr=>(@ag _ _ _ _ _ _ _ _ (@Cg _ _ _ _ _ _ 3 nd rfl ↥3 ∅ (by trivial))
      (@ag _ _ _ _ _ _ _ _ (@ax _ _ _ _ _ 4 _ _ nd rfl ↥3 (@bw _ _ _ _ _ ((@aH _ _ _ _ _ _ ((@aH _ _ _ _ _ _ ((@aH _ _ _ _ _ _ ac)∘((@aH _ _ _ _ _ _ ac)∘ac)))∘((@nG _ _ _ _ _ ae)∘(ae∘ac))))∘ac)) ∅ (by trivial))
      (@ag _ _ _ _ _ _ _ _ (@gY _ _ _ _ _ _ _ _ _ PassesOwn.never (@bb _ _ _ _ _ _ _ _ _ (@tu _ _ _ rfl hr) (¬4) (@bw _ _ _ _ _ ac) (a' _))
      (@ag _ _ _ _ _ _ _ _ (@mL _ _ _ _ _ _ _ _ (@sC _ _ _ _ _ _ _ _ _ rfl (¬4) (ae∘ac) ∅ ∅ ∅ ∅ ∅) (@gX _ _ _ _ _ _ _ _ rfl rfl (@aW _ _ _ _ _ _ _ _ (@aw _ _ _ 5 _ nd rfl ↥3 (by trivial)) (@aW _ _ _ _ _ _ _ _ (@aw _ _ _ 6 _ nd rfl ↥3 (by trivial)) (@aW _ _ _ _ _ _ _ _ (@aw _ _ _ 7 _ nd rfl ↥3 (by trivial)) (@eB _ _) ∅) ∅) ∅) (bf (bf (bf gK))) ∅ ∅) ∅ ∅ ∅)
      (@ag _ _ _ _ _ _ _ _ (@ax _ _ _ _ _ 8 _ _ nd rfl ↥3 (@aP _ _ _ _ _ _ _ _ _ _ _ _ _ _ _ JS Ki (hr.mono ⋯) ((¬1)∘((¬5)∘ac)) ∅ ⋯ ∅ ∅) ∅ (by trivial))
      (@ag _ _ _ _ _ _ _ _ (@ax _ _ _ _ _ 9 _ _ nd rfl ↥3 (@aP _ _ _ _ _ _ _ _ _ _ _ _ _ _ _ IE IF (hr.mono ⋯) ((¬0)∘ac) ∅ ⋯ ∅ ∅) ∅ (by trivial))
      (@ao _ _ _ _ _ (@eC _ _ _ _ _ _ _ _ _ _ _ (@vJ _ _ _ _ (@sE _ _ _ _ _ _ _ _ (@bb _ _ _ _ _ _ _ _ _ (@tu _ _ _ rfl hr) (¬8) (@bw _ _ _ _ _ ac) (a' _)) (@sE _ _ _ _ _ _ _ _ (@bb _ _ _ _ _ _ _ _ _ (@yW _ _) (@sA _ _ _ _ _ _ 3 rfl ∅ (by first | exact Or.inl rfl | exact Or.inr ↥3 | exact Or.inr (Or.inr rfl)) ⋯ ⋯ ∅ T.b_len ∅ ∅ ∅) (¬2) (a' _)) (@sG _ _ _ _ _ (@vJ _ _ _ _ (@wY _ _ _ _ _ _ _ _ (@bb _ _ _ _ _ _ _ _ _ (@tu _ _ _ rfl hr) (@a9 _ _ _ _ _ _ _ (¬9) ae) ae (a' _)) (@sI _ _ _ _ _ (@bb _ _ _ _ _ _ _ _ _ (@yW _ _) (¬6) ae (a' _)))))))))
      (@ag _ _ _ _ _ _ _ _ (@ax _ _ _ _ _ 10 _ _ nd rfl ↥3 (@aS _ _ _ _ _ _ _ rfl (¬8) (@a9 _ _ _ _ _ _ _ (@gU _ _ _ _ _ _ _ (¬9) ae) (@a8 _ _ _ _ _ _ _ _ _ (@b_len _ _ rfl) ∅ T.b_len ((¬8)∘ac) ⋯ ⋯ ∅ ∅)) ↥4) ∅ (by trivial))
      (@ag _ _ _ _ _ _ _ _ (@eC _ _ _ _ _ _ _ _ _ _ _ (@bb _ _ _ _ _ _ _ _ _ (@xF _ _) (¬6) ae (a' _))
      (@ao _ _ _ _ _ (@Ci _ _ _ _ _ _ 3 _ _ _ _ _ _ _ rfl (@sA _ _ _ _ _ _ 3 rfl ∅ (by first | exact Or.inl rfl | exact Or.inr ↥3 | exact Or.inr (Or.inr rfl)) ⋯ ⋯ ∅ T.b_len ∅ ∅ ∅) ∅ (by first | exact Or.inl rfl | exact Or.inr ↥3 | exact Or.inr (Or.inr rfl)) ⋯ ⋯ (¬6) ↥4 (@EG _ _ _ _ _ _ _ (@EH _ _ _ _ _) (@EI _ _ _ _ 7 ∅ (by first | exact Or.inl rfl | exact Or.inr ↥3 | exact Or.inr (Or.inr rfl)) ⋯ ⋯)) ↥5 ∅ ∅ ∅))
      (@bH _ _))
      (@ag _ _ _ _ _ _ _ _ (@cP _ _ _ _ _ (@cX _ _ _ _ _ _ _ _ _ rfl (¬4) ((@aH _ _ _ _ _ _ ((@aP _ _ _ _ _ _ _ _ _ _ _ _ _ _ _ JT J_ (hr.mono ⋯) ((¬1)∘((¬5)∘((¬10)∘((@gW _ _ _ _ _)∘ac)))) ∅ ⋯ ∅ ∅)∘((@sA _ _ _ _ _ _ 3 rfl ∅ (by first | exact Or.inl rfl | exact Or.inr ↥3 | exact Or.inr (Or.inr rfl)) ⋯ ⋯ ∅ T.b_len ∅ ∅ ∅)∘(ae∘ac))))∘ac) ∅ ∅ ∅ ∅ ∅) ∅)
      (@ag _ _ _ _ _ _ _ _ (@cP _ _ _ _ _ (@cX _ _ _ _ _ _ _ _ _ rfl (¬4) ((@aH _ _ _ _ _ _ ((@aP _ _ _ _ _ _ _ _ _ _ _ _ _ _ _ JT J_ (hr.mono ⋯) ((¬1)∘((¬5)∘((¬10)∘((@gW _ _ _ _ _)∘ac)))) ∅ ⋯ ∅ ∅)∘((@sA _ _ _ _ _ _ 3 rfl ∅ (by first | exact Or.inl rfl | exact Or.inr ↥3 | exact Or.inr (Or.inr rfl)) ⋯ ⋯ ∅ T.b_len ∅ ∅ ∅)∘(ae∘ac))))∘ac) ∅ ∅ ∅ ∅ ∅) ∅)
      (@ao _ _ _ _ _ (@cP _ _ _ _ _ (@EB _ _ _ _ _ _ 3 _ _ rfl ∅ (by first | exact Or.inl rfl | exact Or.inr ↥3 | exact Or.inr (Or.inr rfl)) ⋯ ⋯ (@bw _ _ _ _ _ ((¬10)∘((@nG _ _ _ _ _ ae)∘((@nG _ _ _ _ _ ae)∘ac)))) ∅ ∅ ∅ ∅ ∅ ∅) ∅))))))
      (@bH _ _)))))))
      (@ao _ _ _ _ _ (@aL _ _ _ _ _ (@a8 _ _ _ _ _ _ _ _ _ (@b_tuple _ _ rfl) ∅ T.b_tuple ((@fZ _ _ _ _ _ _ _ _ _ _ _ _ _ (am ji) ["_law_drawn","_law_web_here","_law_most","_law_nodes","_law_waiting","_law_stand","_law_parent","_law_side","_law_some","_law_number","_law_tie"] [] ["_law_node"] rfl rfl rfl (@Ce _ _ _ _ 3 _ rfl ∅ (by first | exact Or.inl rfl | exact Or.inr ↥3 | exact Or.inr (Or.inr rfl)) ⋯ ⋯)
        (fun C s0 H0 fp=>(@aw _ _ _ 0 _ (show List.Nodup (["_law_node"]:List Str) by decide+kernel) rfl ↥3 (by trivial))) (fun C s0 H0 fp=>(@eS _ _))
        (fun C s0 H0 fp=>(@a8 _ _ _ _ _ _ _ _ _ (@b_tuple _ _ rfl) ∅ T.b_tuple ((¬0)∘ac) ⋯ ⋯ ∅ ∅)) rfl ↥2 ↥2 ↥2 ↥2 ↥2 ↥2 ↥2 ↥5)∘ac) ⋯ ⋯ ∅ ∅)))))))
def jL:FI:=(c_ (aa (af 1) aj))
def eY:FS:=(aG (kg (aQ (aq (di false) (aq ba (af 4) (vC (.int 16))) (vC (.int 0))))
    (aV 3 (bM 1 aY (aa (af 0) aj)))
    eF)
    (cZ (ck bv (af 2) (aa (aq (di false) (aq ba (aq eh (af 3) (aq Bv (vC (.int 1)) (aq ba (af 4) (vC (.int 16))))) (vC (.int 2))) (vC (.int 1))) aj))))
def qj:FS:=(aG (aV 2 (cO aj))
    (aG (aV 3 (vC (.int 0)))
    (aG (cN ([4]++(([3]++[])++[])) jL (ah 4) eY)
    (br (aM (g1 cf) (aa (af 2) aj))))))
def gq:FM:=fP 2 3 ([2]++([3]++(([4]++(([3]++[])++[]))++[]))) qj
theorem pM:ay ["_law_drawn","_law_many","_law_found","_law_number","_law_k"] ["_law_drawn","_law_many"] (am iX):=⟨rfl,rfl,rfl,by decide+kernel,rfl,by decide+kernel,by decide+kernel⟩
theorem vt(h:aT K mg "_law_answers" iX f fd ["_law_drawn","_law_many"])(T:hX mg){IM:Addr}{IP:FuncData}(IE:aT K mg "_law_next" f9 IM IP ["_law_drawn"])(IF:au P w K mg base bj 1 IM IP ["_law_drawn"] (bo K 1 aY)):au P w K mg base bj 2 f fd ["_law_drawn","_law_many"] (bo K 2 gq):=by
  have nd:=pM.nd
  exact h.fn pM rfl rfl (fun cdv A outer s H E hr=>(@ag _ _ _ _ _ _ _ _ (@ax _ _ _ _ _ 2 _ _ nd rfl ↥3 (@bw _ _ _ _ _ ac) ∅ (by trivial))
      (@ag _ _ _ _ _ _ _ _ (@ax _ _ _ _ _ 3 _ _ nd rfl ↥3 ae ∅ (by trivial))
      (@ag _ _ _ _ _ _ _ _ (@dC _ _ _ _ _ _ _ _ _ _ _ PassesOwn.never rfl (@de _ _ _ _ _ _ _ rfl T.b_range ((¬1)∘ac) ∅) (@aw _ _ _ 4 _ nd rfl ↥3 (by trivial))
      (@ag _ _ _ _ _ _ _ _ (@eC _ _ _ _ _ _ _ _ _ _ _ (@bb _ _ _ _ _ _ _ _ _ (@p6 _ _ _ rfl hr) (@a9 _ _ _ _ _ _ _ (¬4) ae) ae (a' _))
      (@ao _ _ _ _ _ (@ax _ _ _ _ _ 3 _ _ nd rfl ↥3 (@aP _ _ _ _ _ _ _ _ _ _ _ _ _ _ _ IE IF (hr.mono ⋯) ((¬0)∘ac) ∅ ⋯ ∅ ∅) ∅ (by trivial)))
      (@bH _ _))
      (@ao _ _ _ _ _ (@cP _ _ _ _ _ (@cX _ _ _ _ _ _ _ _ _ rfl (¬2) ((@wX _ _ _ _ _ _ _ _ _ (@p6 _ _ _ rfl hr) (@a9 _ _ _ _ _ _ _ (@gU _ _ _ _ _ _ _ (¬3) (@Gh _ _ _ _ _ _ _ ae (@a9 _ _ _ _ _ _ _ (¬4) ae))) ae) ae (a' _))∘ac) ∅ ∅ ∅ ∅ ∅) ∅))) ↥5)
      (@ao _ _ _ _ _ (@aL _ _ _ _ _ (@a8 _ _ _ _ _ _ _ _ _ (@b_tuple _ _ rfl) ∅ T.b_tuple ((¬2)∘ac) ⋯ ⋯ ∅ ∅)))))))
def jq:FI:=(fW (af 1))
def dr:FE:=(aq bL (af 0) (bg (aa (vC (.bool true)) aj)))
def jr:FI:=(fW (af 1))
def dt:FE:=(aq bL (af 0) (bg (aa (vC (.bool false)) aj)))
def fV:FI:=(c_ (aa (af 0) aj))
def cD:FS:=(aV 1 (aq bL (bG [] 1 jq (ah 0) bE dr) (bG [] 1 jr (ah 0) bE dt)))
def ky:FS:=(aG (aV 1 (cO (aa (bg aj) aj)))
    (aG (cN ([2]++[1]) fV (ah 2) cD)
    (br (af 1))))
def dn:FM:=fP 1 2 ([1]++(([2]++[1])++[])) ky
theorem jU:ay ["_law_many","_law_rows","_law_k"] ["_law_many"] (am bX):=⟨rfl,rfl,rfl,by decide+kernel,rfl,by decide+kernel,by decide+kernel⟩
theorem ph(h:aT K mg "_law_all_answers" bX f fd ["_law_many"])(T:hX mg):au P w K mg base bj 1 f fd ["_law_many"] (bo K 1 dn):=by
  have nd:=jU.nd
  exact h.fn jU rfl rfl (fun cdv A outer s H E hr=>(@ag _ _ _ _ _ _ _ _ (@ax _ _ _ _ _ 1 _ _ nd rfl ↥3 (@bw _ _ _ _ _ ((@aH _ _ _ _ _ _ ac)∘ac)) ∅ (by trivial))
      (@ag _ _ _ _ _ _ _ _ (@dC _ _ _ _ _ _ _ _ _ _ _ PassesOwn.never rfl (@de _ _ _ _ _ _ _ rfl T.b_range ((¬0)∘ac) ∅) (@aw _ _ _ 2 _ nd rfl ↥3 (by trivial))
      (@ao _ _ _ _ _ (@ax _ _ _ _ _ 1 _ _ nd rfl ↥3 (@bB _ _ _ _ _ _ _ rfl (@fZ _ _ _ _ _ _ _ _ _ _ _ _ _ (am bX) ["_law_many","_law_rows","_law_k"] [] ["_law_row"] rfl rfl rfl (@cY _ _ _ _ _ rfl (¬1))
        (fun C s0 H0 fp=>(@aw _ _ _ 0 _ (show List.Nodup (["_law_row"]:List Str) by decide+kernel) rfl ↥3 (by trivial))) (fun C s0 H0 fp=>(@eS _ _))
        (fun C s0 H0 fp=>(@bB _ _ _ _ _ _ _ rfl (¬0) (@aH _ _ _ _ _ _ ((@gW _ _ _ _ _)∘ac)))) rfl ↥2 ↥2 ↥2 ↥2 ↥2 ↥2 ↥2 ↥5) (@fZ _ _ _ _ _ _ _ _ _ _ _ _ _ (am bX) ["_law_many","_law_rows","_law_k"] [] ["_law_row"] rfl rfl rfl (@cY _ _ _ _ _ rfl (¬1))
        (fun C s0 H0 fp=>(@aw _ _ _ 0 _ (show List.Nodup (["_law_row"]:List Str) by decide+kernel) rfl ↥3 (by trivial))) (fun C s0 H0 fp=>(@eS _ _))
        (fun C s0 H0 fp=>(@bB _ _ _ _ _ _ _ rfl (¬0) (@aH _ _ _ _ _ _ ((@gW _ _ _ _ _)∘ac)))) rfl ↥2 ↥2 ↥2 ↥2 ↥2 ↥2 ↥2 ↥5)) ∅ (by trivial))) ↥5)
      (@ao _ _ _ _ _ (@aL _ _ _ _ _ (¬1))))))
def iA:FI:=(tR (aa (aq bD (af 0) (vC (.int 1))) (aa (af 1) aj)))
def cJ:FS:=(aV 2 (bM 2 ip (aa (af 2) (aa (aq bD (cO (aa (bM 1 oX (aa (aq bD (af 3) (vC (.int 2))) aj)) (aa (aq bD (af 3) (vC (.int 2))) aj))) (aM (g1 mw) (aa (af 4) aj))) aj))))
def mX:FS:=(aG (aV 2 (bg (aa (vC (.int 1)) (aa (vC (.int 1)) aj))))
    (aG (cN (([3]++([4]++[]))++[2]) iA (bI (aB (ah 3) (aB (ah 4) bz))) cJ)
    (br (af 2))))
def cq:FM:=fP 2 3 ([2]++((([3]++([4]++[]))++[2])++[])) mX
theorem l9:ay ["_law_web_here","_law_answers_here","_law_found","_law_tie","_law_truth"] ["_law_web_here","_law_answers_here"] (am dQ):=⟨rfl,rfl,rfl,by decide+kernel,rfl,by decide+kernel,by decide+kernel⟩
theorem sk(h:aT K mg "_law_chance_of" dQ f fd ["_law_web_here","_law_answers_here"])(T:hX mg){Kj:Addr}{Kk:FuncData}(JL:aT K mg "_law_times" kh Kj Kk ["_law_one","_law_other"])(J0:au P w K mg base bj 3 Kj Kk ["_law_one","_law_other"] (bo K 2 ip)){Le:Addr}{Lf:FuncData}(KS:aT K mg "_law_rest" pH Le Lf ["_law_one"])(K4:au P w K mg base bj 1 Le Lf ["_law_one"] (bo K 1 oX)):au P w K mg base bj 4 f fd ["_law_web_here","_law_answers_here"] (bo K 2 cq):=by
  have nd:=l9.nd
  exact h.fn l9 rfl rfl (fun cdv A outer s H E hr=>(@ag _ _ _ _ _ _ _ _ (@ax _ _ _ _ _ 2 _ _ nd rfl ↥3 (@aH _ _ _ _ _ _ (ae∘(ae∘ac))) ∅ (by trivial))
      (@ag _ _ _ _ _ _ _ _ (@dC _ _ _ _ _ _ _ _ _ _ _ PassesOwn.never rfl (@Ar _ _ _ _ _ _ _ _ _ _ rfl rfl T.b_zip ((@aS _ _ _ _ _ _ _ rfl (¬0) ae ↥4)∘((¬1)∘ac)) ∅ ∅) (@gX _ _ _ _ _ _ _ _ rfl rfl (@aW _ _ _ _ _ _ _ _ (@aw _ _ _ 3 _ nd rfl ↥3 (by trivial)) (@aW _ _ _ _ _ _ _ _ (@aw _ _ _ 4 _ nd rfl ↥3 (by trivial)) (@eB _ _) ∅) ∅) (bf (bf gK)) ∅ ∅)
      (@ao _ _ _ _ _ (@ax _ _ _ _ _ 2 _ _ nd rfl ↥3 (@aP _ _ _ _ _ _ _ _ _ _ _ _ _ _ _ JL J0 (hr.mono ⋯) ((¬2)∘((@aS _ _ _ _ _ _ _ rfl (@bw _ _ _ _ _ ((@aP _ _ _ _ _ _ _ _ _ _ _ _ _ _ _ KS K4 (hr.mono ⋯) ((@aS _ _ _ _ _ _ _ rfl (¬3) ae ↥4)∘ac) ∅ ⋯ ∅ ∅)∘((@aS _ _ _ _ _ _ _ rfl (¬3) ae ↥4)∘ac))) (@a8 _ _ _ _ _ _ _ _ _ (@b_int _ _) ∅ T.b_int ((¬4)∘ac) ⋯ ⋯ ∅ ∅) ↥4)∘ac)) ∅ ⋯ ∅ ∅) ∅ (by trivial))) ↥5)
      (@ao _ _ _ _ _ (@aL _ _ _ _ _ (¬2))))))
def d9:FT:=(aQ (aq Bq (af 3) (vC (.int 0))))
def gc:FS:=(aG (ku (aq bD (af 0) (af 3)) (bI (aB (ah 4) (aB (ah 5) (aB (ah 6) bz)))))
    (aG (cZ (ck bv (af 2) (aa (bg (aa (af 4) (aa (aq bD (af 1) (af 4)) aj))) aj)))
    (aV 3 (aq bD (cO (aa (af 6) (aa (af 5) aj))) (aM (g1 mw) (aa (aq bD (af 1) (af 4)) aj))))))
def oC:FS:=(aG (aV 2 (cO aj))
    (aG (aV 3 (aq bL (pW oJ (vC (.int 1))) (aM (g1 mw) (aa (aq C7 (aM (g1 fU) (aa (af 0) aj)) (vC (.int 0))) aj))))
    (aG (dG (2 ^ 4200) d9 gc)
    (br (aM (g1 cf) (aa (af 2) aj))))))
def gQ:FM:=fP 2 5 ([2]++([3]++((([4]++([5]++([6]++[])))++([]++[3]))++[]))) oC
theorem nH:ay ["_law_tree_here","_law_answers_here","_law_run","_law_at","_law_tie","_law_yes","_law_no"] ["_law_tree_here","_law_answers_here"] (am gZ):=⟨rfl,rfl,rfl,by decide+kernel,rfl,by decide+kernel,by decide+kernel⟩
theorem t_(h:aT K mg "_law_run_tree" gZ f fd ["_law_tree_here","_law_answers_here"])(T:hX mg):au P w K mg base bj 1 f fd ["_law_tree_here","_law_answers_here"] (bo K 2 gQ):=by
  have nd:=nH.nd
  exact h.fn nH rfl rfl (fun cdv A outer s H E hr=>(@ag _ _ _ _ _ _ _ _ (@ax _ _ _ _ _ 2 _ _ nd rfl ↥3 (@bw _ _ _ _ _ ac) ∅ (by trivial))
      (@ag _ _ _ _ _ _ _ _ (@ax _ _ _ _ _ 3 _ _ nd rfl ↥3 (@bB _ _ _ _ _ _ _ rfl (@nG _ _ _ _ _ ae) (@a8 _ _ _ _ _ _ _ _ _ (@b_int _ _) ∅ T.b_int ((@wX _ _ _ _ _ _ _ _ _ (@yV _ _) (@a8 _ _ _ _ _ _ _ _ _ (@b_len _ _ rfl) ∅ T.b_len ((¬0)∘ac) ⋯ ⋯ ∅ ∅) ae (a' _))∘ac) ⋯ ⋯ ∅ ∅)) ∅ (by trivial))
      (@ag _ _ _ _ _ _ _ _ (@gY _ _ _ _ _ _ _ _ _ PassesOwn.never (@bb _ _ _ _ _ _ _ _ _ (@xF _ _) (¬3) ae (a' _))
      (@ag _ _ _ _ _ _ _ _ (@mL _ _ _ _ _ _ _ _ (@aS _ _ _ _ _ _ _ rfl (¬0) (¬3) ↥4) (@gX _ _ _ _ _ _ _ _ rfl rfl (@aW _ _ _ _ _ _ _ _ (@aw _ _ _ 4 _ nd rfl ↥3 (by trivial)) (@aW _ _ _ _ _ _ _ _ (@aw _ _ _ 5 _ nd rfl ↥3 (by trivial)) (@aW _ _ _ _ _ _ _ _ (@aw _ _ _ 6 _ nd rfl ↥3 (by trivial)) (@eB _ _) ∅) ∅) ∅) (bf (bf (bf gK))) ∅ ∅) ∅ ∅ ∅)
      (@ag _ _ _ _ _ _ _ _ (@cP _ _ _ _ _ (@cX _ _ _ _ _ _ _ _ _ rfl (¬2) ((@aH _ _ _ _ _ _ ((¬4)∘((@aS _ _ _ _ _ _ _ rfl (¬1) (¬4) ↥4)∘ac)))∘ac) ∅ ∅ ∅ ∅ ∅) ∅)
      (@ao _ _ _ _ _ (@ax _ _ _ _ _ 3 _ _ nd rfl ↥3 (@aS _ _ _ _ _ _ _ rfl (@bw _ _ _ _ _ ((¬6)∘((¬5)∘ac))) (@a8 _ _ _ _ _ _ _ _ _ (@b_int _ _) ∅ T.b_int ((@aS _ _ _ _ _ _ _ rfl (¬1) (¬4) ↥4)∘ac) ⋯ ⋯ ∅ ∅) ↥4) ∅ (by trivial))))))
      (@ao _ _ _ _ _ (@aL _ _ _ _ _ (@a8 _ _ _ _ _ _ _ _ _ (@b_tuple _ _ rfl) ∅ T.b_tuple ((¬2)∘ac) ⋯ ⋯ ∅ ∅)))))))
def tQ:FI:=(fW (af 1))
def tj:FT:=(aQ (af 2))
def lH:FE:=(aq bD (aq bD (aq bD (af 0) (vC (.int 1))) (af 1)) (vC (.int 3)))
def yO:FS:=(br (aM (g1 (nD qJ)) (aa (bG [(0,"_law_web_here")] 2 tQ (bI (aB (ah 1) (aB (ah 2) bz))) tj lH) aj)))
def oV:FM:=fP 2 0 [] yO
theorem xb:ay ["_law_web_here","_law_run"] ["_law_web_here","_law_run"] (am mP):=⟨rfl,rfl,rfl,by decide+kernel,rfl,by decide+kernel,by decide+kernel⟩
theorem BF(h:aT K mg "_law_kept" mP f fd ["_law_web_here","_law_run"])(T:hX mg):au P w K mg base bj 1 f fd ["_law_web_here","_law_run"] (bo K 2 oV):=by
  have nd:=xb.nd
  exact h.fn xb rfl rfl (fun cdv A outer s H E hr=>(@ao _ _ _ _ _ (@aL _ _ _ _ _ (@a8 _ _ _ _ _ _ _ _ _ (@b_sum _ _ _ rfl hr) ∅ T.b_sum ((@fZ _ _ _ _ _ _ _ _ _ _ _ _ _ (am mP) ["_law_web_here","_law_run"] [(0,"_law_web_here")] ["_law_tie","_law_truth"] rfl rfl rfl (@cY _ _ _ _ _ rfl (¬1))
        (fun C s0 H0 fp=>(@gX _ _ _ _ _ _ _ _ rfl rfl (@aW _ _ _ _ _ _ _ _ (@aw _ _ _ 1 _ (show List.Nodup (["_law_web_here","_law_tie","_law_truth"]:List Str) by decide+kernel) rfl ↥3 (by trivial)) (@aW _ _ _ _ _ _ _ _ (@aw _ _ _ 2 _ (show List.Nodup (["_law_web_here","_law_tie","_law_truth"]:List Str) by decide+kernel) rfl ↥3 (by trivial)) (@eB _ _) ∅) ∅) (bf (bf gK)) ∅ ∅)) (fun C s0 H0 fp=>(@lZ _ _ _ _ (@iF _ _ _ _ (¬2) ↥5)))
        (fun C s0 H0 fp=>(@aS _ _ _ _ _ _ _ rfl (@aS _ _ _ _ _ _ _ rfl (@aS _ _ _ _ _ _ _ rfl (¬0) ae ↥4) (¬1) ↥4) ae ↥4)) rfl ↥2 ↥2 ↥2 ↥2 ↥2 ↥2 ↥2 ↥5)∘ac) ⋯ ⋯ ∅ ∅))))
def gM:FI:=(fW (bM 1 dn (aa (aM (g1 fU) (aa (aq bD (af 0) (vC (.int 1))) aj)) aj)))
def cS:FS:=(aG (aV 4 (bg (aa (bM 2 oV (aa (af 0) (aa (bM 2 gQ (aa (af 1) (aa (af 3) aj))) aj))) (aa (vC (.int 1)) aj))))
    (aV 2 (bM 2 oW (aa (af 2) (aa (bM 2 ip (aa (bM 2 cq (aa (af 0) (aa (af 3) aj))) (aa (af 4) aj))) aj)))))
def lw:FS:=(aG (aV 2 (bg (aa (vC (.int 0)) (aa (vC (.int 1)) aj))))
    (aG (cN ([3]++([4]++[2])) gM (ah 3) cS)
    (br (af 2))))
def cx:FM:=fP 2 3 ([2]++(([3]++([4]++[2]))++[])) lw
theorem kJ:ay ["_law_web_here","_law_tree_here","_law_total","_law_answers_here","_law_kept_here"] ["_law_web_here","_law_tree_here"] (am eD):=⟨rfl,rfl,rfl,by decide+kernel,rfl,by decide+kernel,by decide+kernel⟩
theorem qb(h:aT K mg "_law_tree_worth" eD f fd ["_law_web_here","_law_tree_here"])(T:hX mg){JU:Addr}{JV:FuncData}(Jg:aT K mg "_law_all_answers" bX JU JV ["_law_many"])(Jw:au P w K mg base bj 1 JU JV ["_law_many"] (bo K 1 dn)){Lg:Addr}{Lh:FuncData}(KU:aT K mg "_law_plus" pG Lg Lh ["_law_one","_law_other"])(K5:au P w K mg base bj 3 Lg Lh ["_law_one","_law_other"] (bo K 2 oW)){Li:Addr}{Lj:FuncData}(KW:aT K mg "_law_kept" mP Li Lj ["_law_web_here","_law_run"])(K6:au P w K mg base bj 1 Li Lj ["_law_web_here","_law_run"] (bo K 2 oV)){Kj:Addr}{Kk:FuncData}(JL:aT K mg "_law_times" kh Kj Kk ["_law_one","_law_other"])(J0:au P w K mg base bj 3 Kj Kk ["_law_one","_law_other"] (bo K 2 ip)){Ks:Addr}{Kt:FuncData}(JI:aT K mg "_law_run_tree" gZ Ks Kt ["_law_tree_here","_law_answers_here"])(J1:au P w K mg base bj 1 Ks Kt ["_law_tree_here","_law_answers_here"] (bo K 2 gQ)){Ji:Addr}{Jj:FuncData}(IU:aT K mg "_law_chance_of" dQ Ji Jj ["_law_web_here","_law_answers_here"])(IZ:au P w K mg base bj 4 Ji Jj ["_law_web_here","_law_answers_here"] (bo K 2 cq)):au P w K mg base bj 5 f fd ["_law_web_here","_law_tree_here"] (bo K 2 cx):=by
  have nd:=kJ.nd
  exact h.fn kJ rfl rfl (fun cdv A outer s H E hr=>(@ag _ _ _ _ _ _ _ _ (@ax _ _ _ _ _ 2 _ _ nd rfl ↥3 (@aH _ _ _ _ _ _ (ae∘(ae∘ac))) ∅ (by trivial))
      (@ag _ _ _ _ _ _ _ _ (@dC _ _ _ _ _ _ _ _ _ _ _ PassesOwn.never rfl (@cY _ _ _ _ _ rfl (@aP _ _ _ _ _ _ _ _ _ _ _ _ _ _ _ Jg Jw (hr.mono ⋯) ((@a8 _ _ _ _ _ _ _ _ _ (@b_len _ _ rfl) ∅ T.b_len ((@aS _ _ _ _ _ _ _ rfl (¬0) ae ↥4)∘ac) ⋯ ⋯ ∅ ∅)∘ac) ∅ ⋯ ∅ ∅)) (@aw _ _ _ 3 _ nd rfl ↥3 (by trivial))
      (@ag _ _ _ _ _ _ _ _ (@ax _ _ _ _ _ 4 _ _ nd rfl ↥3 (@aH _ _ _ _ _ _ ((@aP _ _ _ _ _ _ _ _ _ _ _ _ _ _ _ KW K6 (hr.mono ⋯) ((¬0)∘((@aP _ _ _ _ _ _ _ _ _ _ _ _ _ _ _ JI J1 (hr.mono ⋯) ((¬1)∘((¬3)∘ac)) ∅ ⋯ ∅ ∅)∘ac)) ∅ ⋯ ∅ ∅)∘(ae∘ac))) ∅ (by trivial))
      (@ao _ _ _ _ _ (@ax _ _ _ _ _ 2 _ _ nd rfl ↥3 (@aP _ _ _ _ _ _ _ _ _ _ _ _ _ _ _ KU K5 (hr.mono ⋯) ((¬2)∘((@aP _ _ _ _ _ _ _ _ _ _ _ _ _ _ _ JL J0 (hr.mono ⋯) ((@aP _ _ _ _ _ _ _ _ _ _ _ _ _ _ _ IU IZ (hr.mono ⋯) ((¬0)∘((¬3)∘ac)) ∅ ⋯ ∅ ∅)∘((¬4)∘ac)) ∅ ⋯ ∅ ∅)∘ac)) ∅ ⋯ ∅ ∅) ∅ (by trivial)))) ↥5)
      (@ao _ _ _ _ _ (@aL _ _ _ _ _ (¬2))))))
def jN:FI:=(fW (af 3))
def ed:FE:=(bg (aa (aq bD (aq bD (af 1) (af 2)) (vC (.int 0))) (aa (aq bD (af 0) (aq bD (aq bD (af 1) (af 2)) (vC (.int 1)))) (aa (aq bD (af 0) (aq bD (aq bD (af 1) (af 2)) (vC (.int 2)))) aj))))
def jO:FI:=(zl (aa (af 3) aj))
def dY:FS:=(Cn (af 5) (af 4) (af 6))
def gL:FI:=(fW (sU (aq bD (af 1) (aq bD (af 3) (pW oJ (vC (.int 1))))) (eJ (vC (.int 1))) fK))
def dZ:FT:=(aQ (aq (di true) (af 0) (pW oJ (vC (.int 1)))))
def ee:FE:=(af 0)
def cT:FT:=(aQ (aq (di true) (af 2) (cO aj)))
def cR:FS:=(aG (cZ (ck bv (af 3) (aa (ck et (af 2) (aa (aq ba (bM 1 aY (aa (af 0) aj)) (aM (g1 fU) (aa (af 2) aj))) aj)) aj)))
    (cZ (CG (af 2) (bG [] 1 gL (ah 0) dZ ee))))
def lu:FS:=(aG (aV 2 (sU (cO (aa (vC (.int 0)) aj)) fK (eJ (aM (g1 fU) (aa (af 1) aj)))))
    (aG (aV 3 (cO aj))
    (aG (dG (2 ^ 4200) cT cR)
    (aG (aV 4 (aq bQ (cO (aa (pW oJ (vC (.int 1))) aj)) (aq bL (aM (g1 fU) (aa (af 1) aj)) (vC (.int 1)))))
    (aG (cN (([5]++([6]++[]))++[]) jO (bI (aB (ah 5) (aB (ah 6) bz))) dY)
    (br (aM (g1 cf) (aa (bG [(4,"_law_numbers"),(1,"_law_tree_here")] 1 jN (ah 2) bE ed) aj))))))))
def er:FM:=fP 2 5 ([2]++([3]++(([]++[])++([4]++((([5]++([6]++[]))++[])++[]))))) lu
theorem kG:ay ["_law_drawn","_law_tree_here","_law_waiting","_law_order","_law_numbers","_law_at","_law_node"] ["_law_drawn","_law_tree_here"] (am cA):=⟨rfl,rfl,rfl,by decide+kernel,rfl,by decide+kernel,by decide+kernel⟩
theorem qa(h:aT K mg "_law_renumbered" cA f fd ["_law_drawn","_law_tree_here"])(T:hX mg){IM:Addr}{IP:FuncData}(IE:aT K mg "_law_next" f9 IM IP ["_law_drawn"])(IF:au P w K mg base bj 1 IM IP ["_law_drawn"] (bo K 1 aY)):au P w K mg base bj 2 f fd ["_law_drawn","_law_tree_here"] (bo K 2 er):=by
  have nd:=kG.nd
  exact h.fn kG rfl rfl (fun cdv A outer s H E hr=>(@ag _ _ _ _ _ _ _ _ (@ax _ _ _ _ _ 2 _ _ nd rfl ↥3 (@iq _ _ _ _ _ _ _ _ _ _ rfl (@bw _ _ _ _ _ (ae∘ac)) (@ir _ _) (@iu _ _ _ _ (@a8 _ _ _ _ _ _ _ _ _ (@b_len _ _ rfl) ∅ T.b_len ((¬1)∘ac) ⋯ ⋯ ∅ ∅))) ∅ (by trivial))
      (@ag _ _ _ _ _ _ _ _ (@ax _ _ _ _ _ 3 _ _ nd rfl ↥3 (@bw _ _ _ _ _ ac) ∅ (by trivial))
      (@ag _ _ _ _ _ _ _ _ (@gY _ _ _ _ _ _ _ _ _ PassesOwn.never (@bb _ _ _ _ _ _ _ _ _ (@tu _ _ _ rfl hr) (¬2) (@bw _ _ _ _ _ ac) (a' _))
      (@ag _ _ _ _ _ _ _ _ (@cP _ _ _ _ _ (@cX _ _ _ _ _ _ _ _ _ rfl (¬3) ((@sC _ _ _ _ _ _ _ _ _ rfl (¬2) ((@a9 _ _ _ _ _ _ _ (@aP _ _ _ _ _ _ _ _ _ _ _ _ _ _ _ IE IF (hr.mono ⋯) ((¬0)∘ac) ∅ ⋯ ∅ ∅) (@a8 _ _ _ _ _ _ _ _ _ (@b_len _ _ rfl) ∅ T.b_len ((¬2)∘ac) ⋯ ⋯ ∅ ∅))∘ac) ∅ ∅ ∅ ∅ ∅)∘ac) ∅ ∅ ∅ ∅ ∅) ∅)
      (@ao _ _ _ _ _ (@cP _ _ _ _ _ (@Ao _ _ _ _ _ _ _ _ rfl (¬2) (@fZ _ _ _ _ _ _ _ _ _ _ _ _ _ (am cA) ["_law_drawn","_law_tree_here","_law_waiting","_law_order","_law_numbers","_law_at","_law_node"] [] ["_law_link"] rfl rfl rfl (@cY _ _ _ _ _ rfl (@iq _ _ _ _ _ _ _ _ _ _ rfl (@aS _ _ _ _ _ _ _ rfl (¬1) (@aS _ _ _ _ _ _ _ rfl (¬3) (@nG _ _ _ _ _ ae) ↥4) ↥4) (@iu _ _ _ _ ae) (@ir _ _)))
        (fun C s0 H0 fp=>(@aw _ _ _ 0 _ (show List.Nodup (["_law_link"]:List Str) by decide+kernel) rfl ↥3 (by trivial))) (fun C s0 H0 fp=>(@lZ _ _ _ _ (@bb _ _ _ _ _ _ _ _ _ (@tu _ _ _ rfl hr) (¬0) (@nG _ _ _ _ _ ae) (a' _))))
        (fun C s0 H0 fp=>(¬0)) rfl ↥2 ↥2 ↥2 ↥2 ↥2 ↥2 ↥2 ↥5) ∅ ∅ ∅ ∅ ∅ ∅) ∅))))
      (@ag _ _ _ _ _ _ _ _ (@ax _ _ _ _ _ 4 _ _ nd rfl (Or.inr rfl) (@df _ _ _ _ _ _ _ rfl (@bw _ _ _ _ _ ((@nG _ _ _ _ _ ae)∘ac)) (@bB _ _ _ _ _ _ _ rfl (@a8 _ _ _ _ _ _ _ _ _ (@b_len _ _ rfl) ∅ T.b_len ((¬1)∘ac) ⋯ ⋯ ∅ ∅) ae)) ∅ (by trivial))
      (@ag _ _ _ _ _ _ _ _ (@dC _ _ _ _ _ _ _ _ _ _ _ PassesOwn.never rfl (@Cd _ _ _ _ _ _ _ _ _ rfl rfl T.b_enumerate ((¬3)∘ac) ∅) (@gX _ _ _ _ _ _ _ _ rfl rfl (@aW _ _ _ _ _ _ _ _ (@aw _ _ _ 5 _ nd rfl ↥3 (by trivial)) (@aW _ _ _ _ _ _ _ _ (@aw _ _ _ 6 _ nd rfl ↥3 (by trivial)) (@eB _ _) ∅) ∅) (bf (bf gK)) ∅ ∅)
      (@ao _ _ _ _ _ (@EJ _ _ _ _ _ _ _ _ _ _ (¬5) (¬4) (¬6) ↥5 ∅ ∅ ∅)) ↥5)
      (@ao _ _ _ _ _ (@aL _ _ _ _ _ (@a8 _ _ _ _ _ _ _ _ _ (@b_tuple _ _ rfl) ∅ T.b_tuple ((@fZ _ _ _ _ _ _ _ _ _ _ _ _ _ (am cA) ["_law_drawn","_law_tree_here","_law_waiting","_law_order","_law_numbers","_law_at","_law_node"] [(4,"_law_numbers"),(1,"_law_tree_here")] ["_law_node"] rfl rfl rfl (@cY _ _ _ _ _ rfl (¬3))
        (fun C s0 H0 fp=>(@aw _ _ _ 2 _ (show List.Nodup (["_law_numbers","_law_tree_here","_law_node"]:List Str) by decide+kernel) rfl ↥3 (by trivial))) (fun C s0 H0 fp=>(@eS _ _))
        (fun C s0 H0 fp=>(@aH _ _ _ _ _ _ ((@aS _ _ _ _ _ _ _ rfl (@aS _ _ _ _ _ _ _ rfl (¬1) (¬2) ↥4) ae ↥4)∘((@aS _ _ _ _ _ _ _ rfl (¬0) (@aS _ _ _ _ _ _ _ rfl (@aS _ _ _ _ _ _ _ rfl (¬1) (¬2) ↥4) ae ↥4) ↥4)∘((@aS _ _ _ _ _ _ _ rfl (¬0) (@aS _ _ _ _ _ _ _ rfl (@aS _ _ _ _ _ _ _ rfl (¬1) (¬2) ↥4) ae ↥4) ↥4)∘ac))))) rfl ↥2 ↥2 ↥2 ↥2 ↥2 ↥2 ↥2 ↥5)∘ac) ⋯ ⋯ ∅ ∅)))))))))
def yT:FS:=(aG (aV 3 (aq bD (cO (aa (aq bL (vC (.int 1)) (aq ba (bM 1 aY (aa (af 0) aj)) (vC (.int 8)))) (aa (aq bL (vC (.int 1)) (aq ba (bM 1 aY (aa (af 0) aj)) (vC (.int 40)))) (aa (aq bL (vC (.int 40)) (aq bQ (vC (.int 260)) (aM (g1 mw) (aa (af 2) aj)))) aj)))) (aq ba (bM 1 aY (aa (af 0) aj)) (vC (.int 3)))))
    (br (bM 2 er (aa (af 0) (aa (bM 3 jf (aa (af 0) (aa (af 1) (aa (af 3) aj)))) aj)))))
def mF:FM:=fP 3 1 ([3]++[]) yT
theorem xj:ay ["_law_drawn","_law_web_here","_law_great","_law_most"] ["_law_drawn","_law_web_here","_law_great"] (am pJ):=⟨rfl,rfl,rfl,by decide+kernel,rfl,by decide+kernel,by decide+kernel⟩
theorem BL(h:aT K mg "_law_tree" pJ f fd ["_law_drawn","_law_web_here","_law_great"])(T:hX mg){J6:Addr}{J7:FuncData}(Jm:aT K mg "_law_renumbered" cA J6 J7 ["_law_drawn","_law_tree_here"])(JC:au P w K mg base bj 2 J6 J7 ["_law_drawn","_law_tree_here"] (bo K 2 er)){Kl:Addr}{Km:FuncData}(JM:aT K mg "_law_grown" ji Kl Km ["_law_drawn","_law_web_here","_law_most"])(J3:au P w K mg base bj 4 Kl Km ["_law_drawn","_law_web_here","_law_most"] (bo K 3 jf)){IM:Addr}{IP:FuncData}(IE:aT K mg "_law_next" f9 IM IP ["_law_drawn"])(IF:au P w K mg base bj 1 IM IP ["_law_drawn"] (bo K 1 aY)):au P w K mg base bj 5 f fd ["_law_drawn","_law_web_here","_law_great"] (bo K 3 mF):=by
  have nd:=xj.nd
  exact h.fn xj rfl rfl (fun cdv A outer s H E hr=>(@ag _ _ _ _ _ _ _ _ (@ax _ _ _ _ _ 3 _ _ nd rfl ↥3 (@aS _ _ _ _ _ _ _ rfl (@bw _ _ _ _ _ ((@bB _ _ _ _ _ _ _ rfl ae (@a9 _ _ _ _ _ _ _ (@aP _ _ _ _ _ _ _ _ _ _ _ _ _ _ _ IE IF (hr.mono ⋯) ((¬0)∘ac) ∅ ⋯ ∅ ∅) ae))∘((@bB _ _ _ _ _ _ _ rfl ae (@a9 _ _ _ _ _ _ _ (@aP _ _ _ _ _ _ _ _ _ _ _ _ _ _ _ IE IF (hr.mono ⋯) ((¬0)∘ac) ∅ ⋯ ∅ ∅) ae))∘((@bB _ _ _ _ _ _ _ rfl ae (@df _ _ _ _ _ _ _ rfl ae (@a8 _ _ _ _ _ _ _ _ _ (@b_int _ _) ∅ T.b_int ((¬2)∘ac) ⋯ ⋯ ∅ ∅)))∘ac)))) (@a9 _ _ _ _ _ _ _ (@aP _ _ _ _ _ _ _ _ _ _ _ _ _ _ _ IE IF (hr.mono ⋯) ((¬0)∘ac) ∅ ⋯ ∅ ∅) ae) ↥4) ∅ (by trivial))
      (@ao _ _ _ _ _ (@aL _ _ _ _ _ (@aP _ _ _ _ _ _ _ _ _ _ _ _ _ _ _ Jm JC (hr.mono ⋯) ((¬0)∘((@aP _ _ _ _ _ _ _ _ _ _ _ _ _ _ _ JM J3 (hr.mono ⋯) ((¬0)∘((¬1)∘((¬3)∘ac))) ∅ ⋯ ∅ ∅)∘ac)) ∅ ⋯ ∅ ∅)))))
def rY:FI:=(fW (bM 3 jg (aa (af 0) (aa (vC (.int 12)) (aa (vC (.int 10)) aj)))))
def oi:FE:=(aq bL (aq bL (sU (af 1) fK (eJ (vC (.int 2)))) (bg (aa (bM 2 dq (aa (bM 1 aY (aa (af 0) aj)) (aa (vC (.int 0)) aj))) aj))) (sU (af 1) (eJ (vC (.int 3))) fK))
def CZ:FS:=(aG (aV 1 (bG [(0,"_law_drawn")] 1 rY (ah 1) bE oi))
    (br (bg (aa (vC (.int 12)) (aa (aM (g1 cf) (aa (af 1) aj)) (aa (aq bQ (bg (aa (aq bL (vC (.int 1)) (aq ba (bM 1 aY (aa (af 0) aj)) (vC (.int 20)))) aj)) (vC (.int 12))) (aa (vC (.int 10)) aj)))))))
def tV:FM:=fP 1 1 ([1]++[]) CZ
theorem AM:ay ["_law_drawn","_law_ties_here"] ["_law_drawn"] (am qU):=⟨rfl,rfl,rfl,by decide+kernel,rfl,by decide+kernel,by decide+kernel⟩
theorem Ea(h:aT K mg "_law_ten" qU f fd ["_law_drawn"])(T:hX mg){J4:Addr}{J5:FuncData}(JJ:aT K mg "_law_ties" k9 J4 J5 ["_law_drawn","_law_things","_law_many"])(JQ:au P w K mg base bj 4 J4 J5 ["_law_drawn","_law_things","_law_many"] (bo K 3 jg)){JO:Addr}{JP:FuncData}(Jv:aT K mg "_law_chance" iY JO JP ["_law_number","_law_kind"])(JH:au P w K mg base bj 3 JO JP ["_law_number","_law_kind"] (bo K 2 dq)){IM:Addr}{IP:FuncData}(IE:aT K mg "_law_next" f9 IM IP ["_law_drawn"])(IF:au P w K mg base bj 1 IM IP ["_law_drawn"] (bo K 1 aY)):au P w K mg base bj 5 f fd ["_law_drawn"] (bo K 1 tV):=by
  have nd:=AM.nd
  exact h.fn AM rfl rfl (fun cdv A outer s H E hr=>(@ag _ _ _ _ _ _ _ _ (@yd _ _ _ (1) _ _ _ _ _ _ _ _ _ _ _ _ _ (am qU) ["_law_drawn","_law_ties_here"] [(0,"_law_drawn")] ["_law_tie"] rfl rfl rfl (@cY _ _ _ _ _ rfl (@aP _ _ _ _ _ _ _ _ _ _ _ _ _ _ _ JJ JQ (hr.mono ⋯) ((¬0)∘(ae∘(ae∘ac))) ∅ ⋯ ∅ ∅))
        (fun C s0 H0 fp=>(@aw _ _ _ 1 _ (show List.Nodup (["_law_drawn","_law_tie"]:List Str) by decide+kernel) rfl ↥3 (by trivial))) (fun C s0 H0 fp=>(@eS _ _))
        (fun C s0 H0 fp=>(@bB _ _ _ _ _ _ _ rfl (@bB _ _ _ _ _ _ _ rfl (@iq _ _ _ _ _ _ _ _ _ _ rfl (¬1) (@ir _ _) (@iu _ _ _ _ ae)) (@aH _ _ _ _ _ _ ((@aP _ _ _ _ _ _ _ _ _ _ _ _ _ _ _ Jv JH (hr.mono ⋯) ((@aP _ _ _ _ _ _ _ _ _ _ _ _ _ _ _ IE IF (hr.mono ⋯) ((¬0)∘ac) ∅ ⋯ ∅ ∅)∘(ae∘ac)) ∅ ⋯ ∅ ∅)∘ac))) (@iq _ _ _ _ _ _ _ _ _ _ rfl (¬1) (@iu _ _ _ _ ae) (@ir _ _)))) rfl ↥2 ↥2 ↥2 ↥2 ↥2 ↥2 ↥2 nd rfl rfl ∅ ↥5)
      (@ao _ _ _ _ _ (@aL _ _ _ _ _ (@aH _ _ _ _ _ _ (ae∘((@a8 _ _ _ _ _ _ _ _ _ (@b_tuple _ _ rfl) ∅ T.b_tuple ((¬1)∘ac) ⋯ ⋯ ∅ ∅)∘((@df _ _ _ _ _ _ _ rfl (@aH _ _ _ _ _ _ ((@bB _ _ _ _ _ _ _ rfl ae (@a9 _ _ _ _ _ _ _ (@aP _ _ _ _ _ _ _ _ _ _ _ _ _ _ _ IE IF (hr.mono ⋯) ((¬0)∘ac) ∅ ⋯ ∅ ∅) ae))∘ac)) ae)∘(ae∘ac)))))))))
def iQ:FM:=Fq 2 0 ja
theorem pP:ay ["_law_web_here","_law_tree_here","_law_caught","error"] ["_law_web_here","_law_tree_here"] (am iZ):=⟨rfl,rfl,rfl,by decide+kernel,rfl,by decide+kernel,by decide+kernel⟩
theorem vy(h:aT K mg "_law_refused" iZ f fd ["_law_web_here","_law_tree_here"])(T:hX mg){C Cb:Addr}{Jc:Addr}{Jd:FuncData}(IG:aT K mg "by_answers" bV Jc Jd ["web","tree"])(R_by_answers:au P w K mg base (oy P w C) 6 Jc Jd ["web","tree"] (Bb K 2 0 ja))(m_PairsError:mg "PairsError"=some (.ref Cb))(hex:W.exmOne K (.ref C) (.ref Cb)=some true)(Z:p4 K C){c_TooMany:Addr}(m_TooMany:mg "TooMany"=some (.ref c_TooMany)){c_NoRise:Addr}(m_NoRise:mg "NoRise"=some (.ref c_NoRise)){c_NoText:Addr}(m_NoText:mg "NoText"=some (.ref c_NoText)){c_NotTwoSided:Addr}(m_NotTwoSided:mg "NotTwoSided"=some (.ref c_NotTwoSided))(k_TooMany:W.kitOne K (.ref C) (.ref c_TooMany)=some true)(k_t:W.kitAny K (.ref C) [.ref c_NoRise,.ref c_NoText,.ref c_NotTwoSided]=some false)(k_ValueError:W.kitOne K (.ref C) (.type "ValueError")=some true):au P w K mg base bj 7 f fd ["_law_web_here","_law_tree_here"] (bo K 2 iQ):=by
  have nd:=pP.nd
  refine h.F.ok pP (fun vs H Q E q=>q.1) fun cdv A outer s H vs Q E hr hsp=>⟨_,lX (sx (i:=2) nd rfl ↥3 Er rfl (.inl rfl)) (lX (Ai (i:=2) (j:=3) rfl rfl R_by_answers (hr.mono ⋯) rfl IG.m IG.F.kp IG.b (eR (pv 0) (eR (pv 1) jh rfl) rfl) rfl m_PairsError hex nd rfl rfl rfl rfl ⋯) (lX (Aj (PW.pt (Dj (Am (vG (zU Z rfl T.b_isinstance boot_isinstance (pv 2) (lU (v:=V.ref c_TooMany) rfl m_TooMany rfl) (fun _ r=>r) k_TooMany))) (An (vG (Ep (vs:=[V.ref c_NoRise,V.ref c_NoText,V.ref c_NotTwoSided]) Z rfl T.b_isinstance boot_isinstance (pv 2) (eR (lU (v:=V.ref c_NoRise) rfl m_NoRise rfl) (eR (lU (v:=V.ref c_NoText) rfl m_NoText rfl) (eR (lU (v:=V.ref c_NotTwoSided) rfl m_NotTwoSided rfl) jh rfl) rfl) rfl) (fun _ _ _ q=>q) (by show 3≤sizeLine;decide) (fun us' r=>by match us',r with | _,.cons a (.cons b (.cons c .nil))=>cases a;cases b;cases c;rfl) k_t))))) (lY (vF Dg)) sy) (lY (vF (zU Z rfl T.b_isinstance boot_isinstance (pv 2) (zX (T:="ValueError") rfl T.b_ValueError ↥2 ⋯ ⋯) (fun _ r=>r) k_ValueError))))),?_⟩
  obtain⟨v0,v1,rfl⟩:∃v0 v1,vs=[v0,v1]:=match vs,hsp.1 with | [v0,v1],_=>⟨_,_,rfl⟩
  refine⟨v0,rfl,v1,rfl,AR hsp,fun a H' kp hn=>?_⟩
  exact AB rfl az fun H2 k2=>DN hsp fun c o e=>k2 c o (r8 hn c o (kp c o e))
def Hn:FI:=(fW (cO (aa (bM 2 gq (aa (af 1) (aa (af 4) aj))) (aa (bM 2 gq (aa (af 1) (aa (af 4) aj))) (aa (aq bQ (bg (aa (vC (.bool true)) aj)) (af 4)) (aa (aq bQ (bg (aa (vC (.bool false)) aj)) (af 4)) aj))))))
def GZ:FS:=(kg (lg (aQ (bM 2 gR (aa (bM 2 bK (aa (af 3) (aa (af 5) aj))) (aa (bM 2 cq (aa (af 3) (aa (af 5) aj))) aj)))))
    (br (vC (.bool false)))
    eF)
def HS:FI:=(c_ (aa (vC (.int 3)) aj))
def DG:FS:=(aG (aV 3 (bM 3 tW (aa (af 1) (aa (vC (.int 12)) (aa (vC (.int 16)) aj)))))
    (aG (aV 4 (aM (g1 fU) (aa (aq bD (af 3) (vC (.int 1))) aj)))
    (aG (cN ([5]++([]++[])) Hn (ah 5) GZ)
    (aG (aV 6 (bg (aa (aq bD (af 3) (vC (.int 0))) (aa (sU (aq bD (af 3) (vC (.int 1))) fK (eJ (aq bD (cO (aa (vC (.int 6)) (aa (vC (.int 5)) (aa (vC (.int 4)) aj)))) (af 2)))) (aa (aq bD (af 3) (vC (.int 2))) (aa (aq bD (af 3) (vC (.int 3))) aj))))))
    (aG (kg (lb (aQ (aq (di false) (af 2) (vC (.int 2)))) (aQ (aq (di false) (aq ba (bM 1 aY (aa (af 1) aj)) (vC (.int 4))) (vC (.int 0)))))
    (aV 6 (bM 1 tV (aa (af 1) aj)))
    eF)
    (aG (aV 7 (bM 3 mF (aa (af 1) (aa (af 6) (aa (vC (.bool false)) aj)))))
    (kg (lg (aQ (bM 2 gR (aa (bM 2 bU (aa (af 6) (aa (af 7) aj))) (aa (bM 2 cx (aa (af 6) (aa (af 7) aj))) aj)))))
    (br (vC (.bool false)))
    eF)))))))
def C1:FS:=(aG (aV 1 (bM 1 lO (aa (af 0) aj)))
    (aG (cN ([2]++([3]++([4]++(([5]++([]++[]))++([6]++(([6]++[])++([7]++([]++[])))))))) HS (ah 2) DG)
    (aG (aV 8 (bg (aa (vC (.int 12)) (aa (bM 3 jg (aa (af 1) (aa (vC (.int 12)) (aa (aq bL (vC (.int 11)) (aq ba (bM 1 aY (aa (af 1) aj)) (vC (.int 6)))) aj)))) (aa (aq bQ (bg (aa (vC (.int 20)) aj)) (vC (.int 12))) (aa (vC (.int 40)) aj))))))
    (aG (kg (wa (lg (aQ (bM 2 iQ (aa (af 8) (aa (bM 3 jf (aa (af 1) (aa (af 8) (aa (vC (.int 5)) aj)))) aj))))) (lg (aQ (bM 2 iQ (aa (af 8) (aa (bg aj) aj))))))
    (br (vC (.bool false)))
    eF)
    (br (js (bM 2 gR (aa (bM 2 bK (aa (bg (aa (vC (.int 0)) (aa (bg aj) (aa (bg aj) (aa (vC (.int 0)) aj))))) (aa (bg aj) aj))) (aa (bg (aa (vC (.int 1)) (aa (vC (.int 1)) aj))) aj))) (bM 2 gR (aa (bM 2 bU (aa (bg (aa (vC (.int 0)) (aa (bg aj) (aa (bg aj) (aa (vC (.int 0)) aj))))) (aa (bg aj) aj))) (aa (bg (aa (vC (.int 0)) (aa (vC (.int 1)) aj))) aj)))))))))
def oY:FM:=fP 1 8 ([1]++(([2]++([3]++([4]++(([5]++([]++[]))++([6]++(([6]++[])++([7]++([]++[]))))))))++([8]++(([]++[])++[])))) C1
theorem AO:ay ["_law_script","_law_drawn","_law_k","_law_web_here","_law_many","_law_answers_here","_law_small","_law_tree_here","_law_great"] ["_law_script"] (am pK):=⟨rfl,rfl,rfl,by decide+kernel,rfl,by decide+kernel,by decide+kernel⟩
theorem Ec(h:aT K mg "law" pK f fd ["_law_script"])(T:hX mg){K7:Addr}{K8:FuncData}(Kx:aT K mg "_law_draws" l6 K7 K8 ["_law_script"])(KO:au P w K mg base bj 2 K7 K8 ["_law_script"] (bo K 1 lO)){Lx:Addr}{Ly:FuncData}(La:aT K mg "_law_web" uj Lx Ly ["_law_drawn","_law_most","_law_ties_here"])(Lq:au P w K mg base bj 5 Lx Ly ["_law_drawn","_law_most","_law_ties_here"] (bo K 3 tW)){Lk:Addr}{Ll:FuncData}(KY:aT K mg "_law_tree" pJ Lk Ll ["_law_drawn","_law_web_here","_law_great"])(K9:au P w K mg base bj 5 Lk Ll ["_law_drawn","_law_web_here","_law_great"] (bo K 3 mF)){J4:Addr}{J5:FuncData}(JJ:aT K mg "_law_ties" k9 J4 J5 ["_law_drawn","_law_things","_law_many"])(JQ:au P w K mg base bj 4 J4 J5 ["_law_drawn","_law_things","_law_many"] (bo K 3 jg)){Lm:Addr}{Ln:FuncData}(Kn:aT K mg "_law_same" pI Lm Ln ["_law_found","_law_due"])(Ku:au P w K mg base bj 1 Lm Ln ["_law_found","_law_due"] (bo K 2 gR)){KI:Addr}{KJ:FuncData}(JD:aT K mg "_law_answers" iX KI KJ ["_law_drawn","_law_many"])(JW:au P w K mg base bj 2 KI KJ ["_law_drawn","_law_many"] (bo K 2 gq)){Lz:Addr}{LA:FuncData}(Lb:aT K mg "_law_ten" qU Lz LA ["_law_drawn"])(Lr:au P w K mg base bj 5 Lz LA ["_law_drawn"] (bo K 1 tV)){KL:Addr}{KM:FuncData}(JE:aT K mg "_law_refused" iZ KL KM ["_law_web_here","_law_tree_here"])(JX:au P w K mg base bj 7 KL KM ["_law_web_here","_law_tree_here"] (bo K 2 iQ)){IK:Addr}{IL:FuncData}(II:aT K mg "chance_of" cu IK IL ["web","answers"])(IJ:au P w K mg base bj 5 IK IL ["web","answers"] (bo K 2 bK)){Jc:Addr}{Jd:FuncData}(IG:aT K mg "by_answers" bV Jc Jd ["web","tree"])(Jn:au P w K mg base bj 6 Jc Jd ["web","tree"] (bo K 2 bU)){J8:Addr}{J9:FuncData}(Jo:aT K mg "_law_tree_worth" eD J8 J9 ["_law_web_here","_law_tree_here"])(JF:au P w K mg base bj 5 J8 J9 ["_law_web_here","_law_tree_here"] (bo K 2 cx)){Kl:Addr}{Km:FuncData}(JM:aT K mg "_law_grown" ji Kl Km ["_law_drawn","_law_web_here","_law_most"])(J3:au P w K mg base bj 4 Kl Km ["_law_drawn","_law_web_here","_law_most"] (bo K 3 jf)){Ji:Addr}{Jj:FuncData}(IU:aT K mg "_law_chance_of" dQ Ji Jj ["_law_web_here","_law_answers_here"])(IZ:au P w K mg base bj 4 Ji Jj ["_law_web_here","_law_answers_here"] (bo K 2 cq)){IM:Addr}{IP:FuncData}(IE:aT K mg "_law_next" f9 IM IP ["_law_drawn"])(IF:au P w K mg base bj 1 IM IP ["_law_drawn"] (bo K 1 aY)):au P w K mg base bj 8 f fd ["_law_script"] (bo K 1 oY):=by
  have nd:=AO.nd
  exact h.fn AO rfl rfl (fun cdv A outer s H E hr=>(@ag _ _ _ _ _ _ _ _ (@ax _ _ _ _ _ 1 _ _ nd rfl ↥3 (@aP _ _ _ _ _ _ _ _ _ _ _ _ _ _ _ Kx KO (hr.mono ⋯) ((¬0)∘ac) ∅ ⋯ ∅ ∅) ∅ (by trivial))
      (@ag _ _ _ _ _ _ _ _ (@dC _ _ _ _ _ _ _ _ _ _ _ PassesOwn.never rfl (@de _ _ _ _ _ _ _ rfl T.b_range (ae∘ac) ∅) (@aw _ _ _ 2 _ nd rfl ↥3 (by trivial))
      (@ag _ _ _ _ _ _ _ _ (@ax _ _ _ _ _ 3 _ _ nd rfl ↥3 (@aP _ _ _ _ _ _ _ _ _ _ _ _ _ _ _ La Lq (hr.mono ⋯) ((¬1)∘(ae∘(ae∘ac))) ∅ ⋯ ∅ ∅) ∅ (by trivial))
      (@ag _ _ _ _ _ _ _ _ (@ax _ _ _ _ _ 4 _ _ nd rfl ↥3 (@a8 _ _ _ _ _ _ _ _ _ (@b_len _ _ rfl) ∅ T.b_len ((@aS _ _ _ _ _ _ _ rfl (¬3) ae ↥4)∘ac) ⋯ ⋯ ∅ ∅) ∅ (by trivial))
      (@ag _ _ _ _ _ _ _ _ (@dC _ _ _ _ _ _ _ _ _ _ _ PassesOwn.never rfl (@cY _ _ _ _ _ rfl (@bw _ _ _ _ _ ((@aP _ _ _ _ _ _ _ _ _ _ _ _ _ _ _ JD JW (hr.mono ⋯) ((¬1)∘((¬4)∘ac)) ∅ ⋯ ∅ ∅)∘((@aP _ _ _ _ _ _ _ _ _ _ _ _ _ _ _ JD JW (hr.mono ⋯) ((¬1)∘((¬4)∘ac)) ∅ ⋯ ∅ ∅)∘((@df _ _ _ _ _ _ _ rfl (@aH _ _ _ _ _ _ ((@gW _ _ _ _ _)∘ac)) (¬4))∘((@df _ _ _ _ _ _ _ rfl (@aH _ _ _ _ _ _ ((@gW _ _ _ _ _)∘ac)) (¬4))∘ac)))))) (@aw _ _ _ 5 _ nd rfl ↥3 (by trivial))
      (@ao _ _ _ _ _ (@eC _ _ _ _ _ _ _ _ _ _ _ (@sD _ _ _ _ _ (@iF _ _ _ _ (@aP _ _ _ _ _ _ _ _ _ _ _ _ _ _ _ Kn Ku (hr.mono ⋯) ((@aP _ _ _ _ _ _ _ _ _ _ _ _ _ _ _ II IJ (hr.mono ⋯) ((¬3)∘((¬5)∘ac)) ∅ ⋯ ∅ ∅)∘((@aP _ _ _ _ _ _ _ _ _ _ _ _ _ _ _ IU IZ (hr.mono ⋯) ((¬3)∘((¬5)∘ac)) ∅ ⋯ ∅ ∅)∘ac)) ∅ ⋯ ∅ ∅) ↥5))
      (@ao _ _ _ _ _ (@aL _ _ _ _ _ (@gW _ _ _ _ _)))
      (@bH _ _))) ↥5)
      (@ag _ _ _ _ _ _ _ _ (@ax _ _ _ _ _ 6 _ _ nd rfl ↥3 (@aH _ _ _ _ _ _ ((@aS _ _ _ _ _ _ _ rfl (¬3) ae ↥4)∘((@iq _ _ _ _ _ _ _ _ _ _ rfl (@aS _ _ _ _ _ _ _ rfl (¬3) ae ↥4) (@ir _ _) (@iu _ _ _ _ (@aS _ _ _ _ _ _ _ rfl (@bw _ _ _ _ _ (ae∘(ae∘(ae∘ac)))) (¬2) ↥4)))∘((@aS _ _ _ _ _ _ _ rfl (¬3) ae ↥4)∘((@aS _ _ _ _ _ _ _ rfl (¬3) ae ↥4)∘ac))))) ∅ (by trivial))
      (@ag _ _ _ _ _ _ _ _ (@eC _ _ _ _ _ _ _ _ _ _ _ (@vJ _ _ _ _ (@sE _ _ _ _ _ _ _ _ (@bb _ _ _ _ _ _ _ _ _ (@p6 _ _ _ rfl hr) (¬2) ae (a' _)) (@sG _ _ _ _ _ (@bb _ _ _ _ _ _ _ _ _ (@p6 _ _ _ rfl hr) (@a9 _ _ _ _ _ _ _ (@aP _ _ _ _ _ _ _ _ _ _ _ _ _ _ _ IE IF (hr.mono ⋯) ((¬1)∘ac) ∅ ⋯ ∅ ∅) ae) ae (a' _)))))
      (@ao _ _ _ _ _ (@ax _ _ _ _ _ 6 _ _ nd rfl ↥3 (@aP _ _ _ _ _ _ _ _ _ _ _ _ _ _ _ Lb Lr (hr.mono ⋯) ((¬1)∘ac) ∅ ⋯ ∅ ∅) ∅ (by trivial)))
      (@bH _ _))
      (@ag _ _ _ _ _ _ _ _ (@ax _ _ _ _ _ 7 _ _ nd rfl ↥3 (@aP _ _ _ _ _ _ _ _ _ _ _ _ _ _ _ KY K9 (hr.mono ⋯) ((¬1)∘((¬6)∘((@gW _ _ _ _ _)∘ac))) ∅ ⋯ ∅ ∅) ∅ (by trivial))
      (@ao _ _ _ _ _ (@eC _ _ _ _ _ _ _ _ _ _ _ (@sD _ _ _ _ _ (@iF _ _ _ _ (@aP _ _ _ _ _ _ _ _ _ _ _ _ _ _ _ Kn Ku (hr.mono ⋯) ((@aP _ _ _ _ _ _ _ _ _ _ _ _ _ _ _ IG Jn (hr.mono ⋯) ((¬6)∘((¬7)∘ac)) ∅ ⋯ ∅ ∅)∘((@aP _ _ _ _ _ _ _ _ _ _ _ _ _ _ _ Jo JF (hr.mono ⋯) ((¬6)∘((¬7)∘ac)) ∅ ⋯ ∅ ∅)∘ac)) ∅ ⋯ ∅ ∅) ↥5))
      (@ao _ _ _ _ _ (@aL _ _ _ _ _ (@gW _ _ _ _ _)))
      (@bH _ _))))))))) ↥5)
      (@ag _ _ _ _ _ _ _ _ (@ax _ _ _ _ _ 8 _ _ nd rfl ↥3 (@aH _ _ _ _ _ _ (ae∘((@aP _ _ _ _ _ _ _ _ _ _ _ _ _ _ _ JJ JQ (hr.mono ⋯) ((¬1)∘(ae∘((@bB _ _ _ _ _ _ _ rfl ae (@a9 _ _ _ _ _ _ _ (@aP _ _ _ _ _ _ _ _ _ _ _ _ _ _ _ IE IF (hr.mono ⋯) ((¬1)∘ac) ∅ ⋯ ∅ ∅) ae))∘ac))) ∅ ⋯ ∅ ∅)∘((@df _ _ _ _ _ _ _ rfl (@aH _ _ _ _ _ _ (ae∘ac)) ae)∘(ae∘ac))))) ∅ (by trivial))
      (@ag _ _ _ _ _ _ _ _ (@eC _ _ _ _ _ _ _ _ _ _ _ (@vJ _ _ _ _ (@wY _ _ _ _ _ _ _ _ (@sD _ _ _ _ _ (@iF _ _ _ _ (@aP _ _ _ _ _ _ _ _ _ _ _ _ _ _ _ JE JX (hr.mono ⋯) ((¬8)∘((@aP _ _ _ _ _ _ _ _ _ _ _ _ _ _ _ JM J3 (hr.mono ⋯) ((¬1)∘((¬8)∘(ae∘ac))) ∅ ⋯ ∅ ∅)∘ac)) ∅ ⋯ ∅ ∅) ↥5)) (@sI _ _ _ _ _ (@sD _ _ _ _ _ (@iF _ _ _ _ (@aP _ _ _ _ _ _ _ _ _ _ _ _ _ _ _ JE JX (hr.mono ⋯) ((¬8)∘((@aH _ _ _ _ _ _ ac)∘ac)) ∅ ⋯ ∅ ∅) ↥5)))))
      (@ao _ _ _ _ _ (@aL _ _ _ _ _ (@gW _ _ _ _ _)))
      (@bH _ _))
      (@ao _ _ _ _ _ (@aL _ _ _ _ _ (@EC _ _ _ _ _ _ _ _ (@aP _ _ _ _ _ _ _ _ _ _ _ _ _ _ _ Kn Ku (hr.mono ⋯) ((@aP _ _ _ _ _ _ _ _ _ _ _ _ _ _ _ II IJ (hr.mono ⋯) ((@aH _ _ _ _ _ _ (ae∘((@aH _ _ _ _ _ _ ac)∘((@aH _ _ _ _ _ _ ac)∘(ae∘ac)))))∘((@aH _ _ _ _ _ _ ac)∘ac)) ∅ ⋯ ∅ ∅)∘((@aH _ _ _ _ _ _ (ae∘(ae∘ac)))∘ac)) ∅ ⋯ ∅ ∅) (@EE _ _ _ _ _ _ (@aP _ _ _ _ _ _ _ _ _ _ _ _ _ _ _ Kn Ku (hr.mono ⋯) ((@aP _ _ _ _ _ _ _ _ _ _ _ _ _ _ _ IG Jn (hr.mono ⋯) ((@aH _ _ _ _ _ _ (ae∘((@aH _ _ _ _ _ _ ac)∘((@aH _ _ _ _ _ _ ac)∘(ae∘ac)))))∘((@aH _ _ _ _ _ _ ac)∘ac)) ∅ ⋯ ∅ ∅)∘((@aH _ _ _ _ _ _ (ae∘(ae∘ac)))∘ac)) ∅ ⋯ ∅ ∅))))))))))
local macro_rules | `(tactic| simp? [$ts,*]) => `(tactic| simp [$ts,*, fP, jQ, aG, kg, br, eF, aV, cZ, ku, nW, qe, aQ, aq, pW, af, vC, cO, aj, aa, bg, aM, bM, lb, wa, lg, yy, js, uI, nO, sU, fK, eJ, ck, bv, tX, et, gH, kW, dz, bA, p9, sR, bI, aB, ah, bz, cc, aN, bi, sj, dI, dm, cU, ic, io, ik, ig, ie, fx, fw, fy, dN, fj, nu, fm, jG, nA, jJ, il, jH, jI, fD, fB, dO, fF, jp, i4, dg, jx, jy, m5, dM, dJ, ej, ii, List.replicate, -List.map_nil, -List.map_cons, -List.nil_append, -List.cons_append, -Option.bind_some, -Option.map_some, -getElem?_pos, -List.append_nil, ni, nh, m8, m7, m_, ng, m9, nj])
theorem yE{n k:Int}(h:0 < k):0≤n % k:=Int.emod_nonneg _ (Int.ne_of_gt h)
theorem yF{n k:Int}(h:0 < k):n % k < k:=Int.emod_lt_of_pos _ h
def nx:List Int→Int
  | []=>0
  | d::_=>d
def fQ(ds:List Int):Prop:=∀d∈ds,0≤d∧d < 2147483648
theorem Df{ds:List Int}(h:fQ ds):0≤nx ds∧nx ds < 2147483648:=by
  cases ds with
  | nil=>exact⟨Int.le_refl 0,by show(0:Int) < 2147483648;decide⟩
  | cons d r=>exact h d ↥1
theorem GU{ds:List Int}(h:fQ ds):fQ ds.tail:=fun d hd=>h d (List.mem_of_mem_tail hd)
theorem Fd(ds:List Int):aY [.l (ds.map .int)]=some (.d (.int (nx ds)),[.l (ds.tail.map .int)]):=by
  have hq:∀e:En,e[0]?=some (some (.l (ds.map .int)))→di false e (.s 0) (.l [])=some (.d (.bool (ds.map PyData.int).isEmpty)):=fun e he=>lK he (jW ds).1
  cases ds with
  | nil=>simp? [aY,uV,hq,nx]
  | cons d r=>simp? [aY,uV,hq,nx]
theorem hV{ds:List Int}(hd:fQ ds):∃(n:Int) (ds':List Int),aY [.l (ds.map .int)]=some (.d (.int n),[.l (ds'.map .int)])∧0≤n∧n < 2147483648∧fQ ds':=⟨nx ds,ds.tail,Fd ds,(Df hd).1,(Df hd).2,GU hd⟩
theorem xr(cell k:Int)(h0:0≤k)(h1:k≤1000):∃r,kc [.d (.int cell),.d (.int k)]=some (.d (.int r),[.d (.int cell),.d (.int k)])∧0≤r∧r < 2147483648:=by
  have a1:kY (cell % 2147483647) 48271=true:=si ⋯ ⋯
  have a2:kY 7919 k=true:=vq ⋯ ⋯
  have a3:kY (7919*k) k=true:=si ↥0 ↥0
  have a4:kY ((cell % 2147483647*48271+7919*k*k+104729) % 2147483647) ((cell % 2147483647*48271+7919*k*k+104729) % 2147483647)=true:=si ↥0 ↥0
  refine⟨_,by simp? [kc,wu,aO,bT,a1,a2,a3,a4];rfl,?_,?_⟩
  · lia
  · lia
theorem rQ{ds:List Int}(h:fQ ds){r:Int}(h0:0≤r)(h1:r < 2147483648):fQ (ds++[r]):=fun d hd=>by
  rcases LH hd with hd | hd
  · exact h d hd
  · simp at hd;subst hd;exact⟨h0,h1⟩
abbrev dE(ns ds:List Int)(v2 v3 v4:Option Sv):En:=[some (.d (.list (ns.map .int))),some (.l (ds.map .int)),v2,v3,v4]
inductive DI (ns:List Int) (i:Nat):En→Prop
  | mk {ds v2 v3 v4} (hd:fQ ds) (hl:ds.length≤1000*i):DI ns i (dE ns ds v2 v3 v4)
inductive DJ (ns:List Int) (k cell:Int) (n i:Nat):En→Prop
  | mk {ds v4} (hd:fQ ds) (hl:ds.length=n+i):DJ ns k cell n i (dE ns ds (some (.d (.int k))) (some (.d (.int cell))) v4)
inductive DW (ns:List Int) (k:Int) (v4:Option Sv) (n:Nat):En→Prop
  | mk {cell ds} (hc:0≤cell) (hd:fQ ds) (hl:ds.length≤max n 900):DW ns k v4 n (dE ns ds (some (.d (.int k))) (some (.d (.int cell))) v4)
theorem Cy(ns:List Int)(hn:ns.length≤63):∃ds,lO [.d (.list (ns.map .int))]=some (.l (ds.map .int),[.d (.list (ns.map .int))])∧fQ ds:=by
  have inner:∀(cell k:Int) (ds:List Int) (v4:Option Sv),0≤k→k≤63→fQ ds→ds.length≤63000→∃ds' v4',(∀W,cN W j_ (ah 4) iI (dE ns ds (some (.d (.int k))) (some (.d (.int cell))) v4)=some (.nx (dE ns ds' (some (.d (.int k))) (some (.d (.int cell))) v4')))∧fQ ds'∧ds'.length=ds.length+12:=by
    intro cell k ds v4 k0 k1 hd hl
    obtain⟨e',h1,h2⟩:=cI (own:=[]) (g:=ah 4) (f:=iI) (DJ ns k cell ds.length) (bu 0 12) 0 (dE ns ds (some (.d (.int k))) (some (.d (.int cell))) v4) (fun i x e hx hI=>by
      obtain⟨rfl,hi⟩:=cy hx
      obtain⟨hd',hl'⟩:=hI
      rename_i ds' v4'
      obtain⟨r1,c1,_,_⟩:=xr cell (3*(0+(i:Int))+1) ↥0 ↥0
      obtain⟨r2,c2,c3,c4⟩:=xr r1 (0+(i:Int)+k+2) ↥0 ↥0
      have a1:kY 3 (0+(i:Int))=true:=vq ⋯ ⋯
      refine⟨_,dE ns (ds'++[r2]) (some (.d (.int k))) (some (.d (.int cell))) (some (.d (.int (0+(i:Int))))),rfl,?_,bh,.mk (rQ hd' c3 c4) ↥7⟩
      have hlen:ds'.length < 1000000:=by lia
      simp only [Int.zero_add] at a1 c1 c2
      simp? [dE,iI,c1,c2,bT,a1,hlen]) (.mk hd rfl)
    obtain⟨hd',hl'⟩:=h2
    rename_i ds' v4'
    rw [dD] at hl'
    refine⟨ds',v4',fun W=>?_,hd',by lia⟩
    rw [cQ (show j_ _=some (bu 0 12,[],_) from cV (n:=12) rfl ⋯ ⋯)]
    exact h1
  have wh:∀(cell k:Int) (ds:List Int) (v4:Option Sv),0≤cell→fQ ds→ds.length≤63100→∃cell' ds',dG (2 ^ 4200) gp j3 (dE ns ds (some (.d (.int k))) (some (.d (.int cell))) v4)=some (.nx (dE ns ds' (some (.d (.int k))) (some (.d (.int cell'))) v4))∧0≤cell'∧fQ ds'∧ds'.length≤max ds.length 900:=by
    intro cell k ds v4 hc hd hl
    have tst:∀(cell:Int) (ds:List Int),gp (dE ns ds (some (.d (.int k))) (some (.d (.int cell))) v4)=some (decide (1000000000000000000≤cell)&&decide ((ds.length:Int) < 900),dE ns ds (some (.d (.int k))) (some (.d (.int cell))) v4):=by
      intro cell ds
      by_cases h:(1000000000000000000:Int)≤cell
      · simp? [dE,gp,lL,lW,h]
      · simp? [dE,gp,lL,lW,h]
    obtain⟨e0,e',h1,hI,h3⟩:=dH (ft:=gp) (f:=j3) (DW ns k v4 ds.length)
      (fun e=>1000000 - eI 1 e) (fun e hI=>by
        obtain⟨hc',hd',hl'⟩:=hI
        rename_i cell' ds'
        rw [tst]
        by_cases c1:(1000000000000000000:Int)≤cell'
        · by_cases c2:(ds'.length:Int) < 900
          · refine .inr ⟨_,dE ns (ds'++[cell' % 2147483629]) (some (.d (.int k))) (some (.d (.int (cell' / 2147483629)))) v4,by rw [decide_eq_true c1,decide_eq_true c2];rfl,?_,.mk ↥0 (rQ hd' ↥0 ↥0) ↥7,?_⟩
            · have hlen:ds'.length < 1000000:=by lia
              have b8:Bt 8000 2147483629:=kR ⋯ ⋯
              simp? [dE,j3,aO,eM,b8,hlen]
            · simp [eI,dE];lia
          · exact .inl ⟨_,by rw [decide_eq_true c1,decide_eq_false c2];rfl,trivial⟩
        · exact .inl ⟨_,by rw [decide_eq_false c1];rfl,trivial⟩) (2 ^ 4200) _ (.mk hc hd ↥0) (je (m:=20) (Nat.lt_of_le_of_lt (Nat.sub_le _ _) ⋯) ⋯)
    obtain⟨hc',hd',hl'⟩:=hI
    rename_i cell' ds'
    rw [tst] at h3
    have h4:=(Prod.mk.inj (Option.some.inj h3)).2
    subst h4
    exact⟨cell',ds',h1,hc',hd',hl'⟩
  have turn:∀(i:Nat) (ds:List Int) (v3 v4:Option Sv) (hi:i < ns.length),fQ ds→ds.length≤1000*i→∃ds2 v3' v4',gn (dE ns ds (some (.d (.int (i:Int)))) v3 v4)=some (.nx (dE ns ds2 (some (.d (.int (i:Int)))) v3' v4'))∧fQ ds2∧ds2.length≤1000*(i+1):=by
    intro i ds v3 v4 hi hd hl
    have hcell:atI (ns.map PyData.int) (i:Int)=some (.int ns[i]):=by
      rw [gC ↥0 (by rw [List.length_map];lia)]
      simp [hi]
    have c0:(0:Int)≤(ns[i].natAbs:Int):=by lia
    have st:aV 3 (aM (g1 u_) (aa (aq bD (af 0) (af 2)) aj)) (dE ns ds (some (.d (.int (i:Int)))) v3 v4)=some (.nx (dE ns ds (some (.d (.int (i:Int)))) (some (.d (.int (ns[i].natAbs:Int)))) v4)):=by
      simp? [dE,hcell]
    generalize (ns[i].natAbs:Int)=cell at c0 st
    have mid:∃ds1 v4',kg (aQ (aq Bs (af 3) (aq vc (vC (.int 10)) (vC (.int 18))))) (cN ([4]++[]) j_ (ah 4) iI) eF (dE ns ds (some (.d (.int (i:Int)))) (some (.d (.int cell))) v4)=some (.nx (dE ns ds1 (some (.d (.int (i:Int)))) (some (.d (.int cell))) v4'))∧fQ ds1∧ds1.length≤ds.length+12:=by
      by_cases cb:cell < 1000000000000000000
      · obtain⟨ds1,v4',f1,f2,f3⟩:=inner cell (i:Int) ds v4 ↥0 ↥0 hd ↥0
        refine⟨ds1,v4',?_,f2,by lia⟩
        rw [Gx (e1:=dE ns ds (some (.d (.int (i:Int)))) (some (.d (.int cell))) v4) (by simp? [dE,lL,lW,cb])]
        exact f1 _
      · refine⟨ds,v4,?_,hd,by lia⟩
        rw [Gw (e1:=dE ns ds (some (.d (.int (i:Int)))) (some (.d (.int cell))) v4) (by simp? [dE,lL,lW,cb])]
        rfl
    obtain⟨ds1,v4',m1,m2,m3⟩:=mid
    obtain⟨cell2,ds2,w1,w2,w3,w4⟩:=wh cell (i:Int) ds1 v4' c0 m2 ↥0
    by_cases c2:(2147483629:Int)≤cell2
    · refine⟨ds2++[cell2 % 2147483629],some (.d (.int cell2)),v4',?_,rQ w3 ↥0 ↥0,by simp;lia⟩
      have hlen:ds2.length < 1000000:=by lia
      unfold gn
      rw [ki st,ki m1,ki w1]
      simp? [dE,c2,aO,hlen]
    · refine⟨ds2,some (.d (.int cell2)),v4',?_,w3,by lia⟩
      unfold gn
      rw [ki st,ki m1,ki w1]
      simp? [dE,c2]
  obtain⟨e',h1,hI⟩:=cI (own:=[]) (g:=ah 2) (f:=gn) (DI ns) (bu 0 (min (ns.length:Int) 63).toNat) 0 (dE ns [] none none none) (fun i x e hx hI=>by
    obtain⟨rfl,hi⟩:=cy hx
    obtain⟨hd,hl⟩:=hI
    rename_i ds v2 v3 v4
    rw [Nat.zero_add] at hl ⊢
    obtain⟨ds2,v3',v4',t1,t2,t3⟩:=turn i ds v3 v4 ↥0 hd hl
    exact⟨dE ns ds (some (.d (.int (i:Int)))) v3 v4,_,by simp [ah,dE],t1,bh,.mk t2 t3⟩) (.mk (fun d hd=>by cases hd) ↥1)
  obtain⟨hd,hl⟩:=hI
  rename_i ds v2 v3 v4
  refine⟨ds,?_,hd⟩
  have hf:∀W,cN W my (ah 2) gn (dE ns [] none none none)=some (.nx (dE ns ds v2 v3 v4)):=fun W=>by
    rw [cQ (show my _=some (bu 0 (min (ns.length:Int) 63).toNat,[],dE ns [] none none none) from cV (n:=min (ns.length:Int) 63) (by simp? [dE]) ↥0 ↥0)]
    exact h1
  unfold dE at hf
  simp only [List.map_nil] at hf
  simp? [lO,wo,hf]
theorem GP(a b:Int)(hb:Bt 4000 b):tU [.d (.int a),.d (.int b)]=some (.d (.int (Int.gcd a b)),[.d (.int a),.d (.int b)]):=by
  have tst:∀x y:Int,lB [some (.d (.int x)),some (.d (.int y))]=some (!(y==0),[some (.d (.int x)),some (.d (.int y))]):=fun x y=>by simp? [lB]
  obtain⟨e0,e',h1,⟨x,y,he,hg,hy⟩,h3⟩:=dH (ft:=lB) (f:=nZ) (fun e=>∃x y,e=[some (.d (.int x)),some (.d (.int y))]∧Int.gcd x y=Int.gcd a b∧Bt 4000 y) (qR 1) (fun e ⟨x,y,he,hg,hy⟩=>by
    subst he
    rw [tst]
    by_cases c:y=0
    · subst c;exact .inl ⟨_,rfl,trivial⟩
    · refine .inr ⟨_,[some (.d (.int y)),some (.d (.int (x.fmod y)))],by rw [beq_false_of_ne c];rfl,by simp? [nZ,zc c],⟨y,x.fmod y,rfl,by rw [tP,hg],?_⟩,?_⟩
      · have:=ia x c
        exact Bt.of_le hy ↥0
      · have:=ia x c
        simpa [qR] using this) (2 ^ 4200) _ ⟨a,b,rfl,rfl,hb⟩ (je (m:=4000) (by simpa [qR,Bt] using hb) ⋯)
  subst he
  rw [tst] at h3
  have h4:=Prod.mk.inj (Option.some.inj h3)
  have hy0:y=0:=by simpa using h4.1
  subst hy0
  have h5:=h4.2
  subst h5
  have hs:dG (2 ^ 4200) lB nZ [some (.d (.int a)),some (.d (.int b))]=some (.nx [some (.d (.int x)),some (.d (.int 0))]):=h1
  have hg':(x.natAbs:Int)=(Int.gcd a b:Int):=by rw [←hg];simp
  simp only [tU,CW,fP,jQ,aG,kg,br,eF,aV,cZ,ku,nW,qe,aQ,aq,pW,af,vC,cO,aj,aa,bg,aM,bM,lb,wa,lg,yy,js,uI,nO,sU,fK,eJ,ck,bv,tX,et,gH,kW,dz,bA,p9,sR,bI,aB,ah,bz,cc,aN,bi,sj,dI,dm,cU,ic,io,ik,ig,ie,fx,fw,fy,dN,fj,nu,fm,jG,nA,jJ,il,jH,jI,fD,fB,dO,fF,jp,i4,dg,jx,jy,m5,dM,dJ,ej,ii,List.replicate, -List.map_nil, -List.map_cons, -List.nil_append, -List.cons_append, -Option.bind_some, -Option.map_some, -getElem?_pos, -List.append_nil,ni,nh,m8,m7,m_,ng,m9,nj]
  simp? [hs,hg']
theorem xq(t b:Int)(hb:0 < b)(h:Bt 4000 b):kD [.d (.int t),.d (.int b)]=some (.d (.tuple [.int (lowM t b).1,.int (lowM t b).2]),[.d (.int t),.d (.int b)]):=by
  have g0:=rW (t:=t) (b:=b) ↥0
  have g1:(Int.gcd t b:Int)≠0:=by lia
  have g8:Bt 8000 (Int.gcd t b:Int):=(zg (t:=t) ↥0 h).mono ⋯
  have e:lowM t b=(t.fdiv (Int.gcd t b:Int),b.fdiv (Int.gcd t b:Int)):=by unfold lowM;rw [if_neg ↥0]
  rw [e]
  simp? [kD,CY,GP t b h,wF g1 g8]
theorem C2{i:Int}{n:Nat}(h1: -2147483648 < i)(h2:i < 2147483648)(hn:31≤n):Bt n i:=Bt.mono (m:=31) (by unfold Bt;lia) hn
def y1(t b:Int):Prop:=0≤t∧t≤b∧1≤b∧b≤100∧Int.gcd t b=1
theorem uC(n k:Int)(hn:0≤n):∃t b,dq [.d (.int n),.d (.int k)]=some (.d (.tuple [.int t,.int b]),[.d (.int n),.d (.int k)])∧y1 t b:=by
  have b9:Bt 8000 9:=kR ⋯ ⋯
  have b100:Bt 8000 100:=kR ⋯ ⋯
  have low:∀t b:Int,0 < b→0≤t→t≤b→b≤100→y1 (lowM t b).1 (lowM t b).2:=fun t b hb h0 h1 h2=>by
    obtain⟨r1,r2,r3,r4⟩:=vm hb h0 h1 h2
    exact⟨r1,r2,r3,r4,oU ↥0⟩
  by_cases c0:k=0
  · subst c0
    obtain⟨x,hx,ha⟩:=kO (xs:=[PyData.tuple [.int 1,.int 2],.tuple [.int 1,.int 3],.tuple [.int 2,.int 3],.tuple [.int 1,.int 1],.tuple [.int 0,.int 1],.tuple [.int 3,.int 4]]) (i:=n % 6) ↥0 ↥7
    obtain⟨t,b,rfl,hc⟩:∃t b,x=.tuple [.int t,.int b]∧y1 t b:=by
      simp only [List.mem_cons,List.not_mem_nil,or_false] at hx
      rcases hx with rfl | rfl | rfl | rfl | rfl | rfl<;>exact⟨_,_,rfl,by unfold y1;decide⟩
    exact⟨t,b,by simp? [dq,jA,aO,ha],hc⟩
  · by_cases c1:k=1
    · subst c1
      have hm:(n / 9) % (2+n % 9 - 1) < 2+n % 9 - 1:=Int.emod_lt_of_pos _ ↥0
      have hm0:0≤(n / 9) % (2+n % 9 - 1):=Int.emod_nonneg _ ↥0
      refine⟨_,_,?_,low (1+(n / 9) % (2+n % 9 - 1)) (2+n % 9) ↥0 ↥0 ↥0 ↥0⟩
      have hpos:∀e:En,ba e (.d (.int (n / 9))) (.d (.int (2+n % 9 - 1)))=_:=fun e=>aO ↥0
      have hl:=xq (1+(n / 9) % (2+n % 9 - 1)) (2+n % 9) ↥0 (C2 ↥0 ↥0 ⋯)
      simp? [dq,jA,aO,eM,b9,hpos,hl]
    · by_cases c2:k=2
      · subst c2
        have hm:(n / 100) % (1+n % 100+1) < 1+n % 100+1:=Int.emod_lt_of_pos _ ↥0
        have hm0:0≤(n / 100) % (1+n % 100+1):=Int.emod_nonneg _ ↥0
        refine⟨_,_,?_,low ((n / 100) % (1+n % 100+1)) (1+n % 100) ↥0 ↥0 ↥0 ↥0⟩
        have hpos:∀e:En,ba e (.d (.int (n / 100))) (.d (.int (1+n % 100+1)))=_:=fun e=>aO ↥0
        have hl:=xq ((n / 100) % (1+n % 100+1)) (1+n % 100) ↥0 (C2 ↥0 ↥0 ⋯)
        simp? [dq,jA,aO,eM,b100,hpos,hl]
      · refine⟨1,1,?_,by unfold y1;decide⟩
        simp? [dq,jA,c0,c1,c2]
theorem CB(n k:Int):∃r,lQ [.d (.int n),.d (.int k)]=some (.d (.int r),[.d (.int n),.d (.int k)])∧0≤r∧r≤1000:=by
  obtain⟨x,hx,ha⟩:=kO (xs:=[PyData.int (n % 7),.int (5+n % 2),.int (n % 1001),.int (1000 - n % 3)]) (i:=k % 4) ↥0 ↥7
  obtain⟨r,rfl,hr⟩:∃r,x=.int r∧0≤r∧r≤1000:=by
    simp only [List.mem_cons,List.not_mem_nil,or_false] at hx
    rcases hx with rfl | rfl | rfl | rfl<;>exact⟨_,rfl,by lia,by lia⟩
  exact⟨r,by simp? [lQ,wx,aO,ha],hr⟩
abbrev tE(ds:List Int)(things many shape odds ws:Int)(ts:List mr)(v7 v8 v9 v10 v11 v12:Option Sv):En:=[some (.l (ds.map .int)),some (.d (.int things)),some (.d (.int many)),some (.d (.int shape)),some (.d (.int odds)),some (.d (.int ws)),some (.l (ts.map be)),v7,v8,v9,v10,v11,v12]
inductive TR (things many shape odds ws:Int) (ts:List mr) (k:Option Sv):En→Prop
  | mk {t ds w8 w9 w10 w11 w12} (hd:fQ ds) (ht:t.Ok things):TR things many shape odds ws ts k (tE ds things many shape odds ws (ts++[t]) k w8 w9 w10 w11 w12)
inductive TI (things many a b c:Int) (i:Nat):En→Prop
  | mk {ts ds w7 w8 w9 w10 w11 w12} (hd:fQ ds) (hl:ts.length=i) (ht:∀t∈ts,t.Ok things):TI things many a b c i (tE ds things many a b c ts w7 w8 w9 w10 w11 w12)
theorem GS(ds:List Int)(things many shape odds ws:Int)(ts:List mr)(k:Int)(v8 v9 v10 v11 v12:Option Sv)(hd:fQ ds)(h2:2≤things)(h12:things≤100)(s0:0≤shape)(s1:shape < 6)(k0:0≤k)(hl:ts.length≤1000):
    ∃e',iJ (tE ds things many shape odds ws ts (some (.d (.int k))) v8 v9 v10 v11 v12)=some (.nx e')∧TR things many shape odds ws ts (some (.d (.int k))) e':=by
  obtain⟨n,d1,tn, -, -,hd1⟩:=hV hd
  obtain⟨m,d2,tm,m0, -,hd2⟩:=hV hd1
  obtain⟨x,hx,ha⟩:=kO (xs:=[PyData.int (n % things),.int 0,.int (k % things),.int (n % things),.int (n % 2),.int (n % things)]) (i:=shape) s0 ↥7
  have tp:0 < things:=Int.lt_of_lt_of_le ⋯ h2
  have tq:0 < things - 1:=Int.sub_pos_of_lt (Int.lt_of_lt_of_le ⋯ h2)
  have nt:0≤n % things∧n % things < things:=⟨yE tp,yF tp⟩
  have kt:0≤k % things∧k % things < things:=⟨yE tp,yF tp⟩
  obtain⟨one,rfl,o0,o1⟩:∃r,x=.int r∧0≤r∧r < things:=by
    simp only [List.mem_cons,List.not_mem_nil,or_false] at hx
    rcases hx with rfl | rfl | rfl | rfl | rfl | rfl<;>exact⟨_,rfl,by lia,by lia⟩
  have r0:0≤(n / 12) % (things - 1):=yE tq
  have r1:(n / 12) % (things - 1) < things - 1:=yF tq
  have q0:0≤(one+1+(n / 12) % (things - 1)) % things:=yE tp
  have q1:(one+1+(n / 12) % (things - 1)) % things < things:=yF tp
  have qn:(one+1+(n / 12) % (things - 1)) % things≠one:=fun z=>by
    by_cases c:one+1+(n / 12) % (things - 1) < things
    · rw [Int.emod_eq_of_lt ↥0 c] at z;lia
    · have e:(one+1+(n / 12) % (things - 1)) % things=(one+1+(n / 12) % (things - 1) - things) % things:=by rw [Int.sub_emod_right]
      rw [e,Int.emod_eq_of_lt ↥0 ↥0] at z;lia
  obtain⟨t,b,c1,c2,c3,c4,c5,c6⟩:=uC m odds m0
  obtain⟨w,w1,w2,w3⟩:=CB (m / 10007) ws
  have b12:Bt 8000 12:=kR ⋯ ⋯
  have b107:Bt 8000 10007:=kR ⋯ ⋯
  have g1:∀(e:En) (i:Int),ba e (.d (.int i)) (.d (.int things))=some (.d (.int (i % things))):=fun e i=>aO tp
  have g2:∀(e:En) (i:Int),ba e (.d (.int i)) (.d (.int (things - 1)))=some (.d (.int (i % (things - 1)))):=fun e i=>aO tq
  have hlen:ts.length < 1000000:=by lia
  by_cases c:shape=4
  · subst c
    refine⟨tE d2 things many 4 odds ws (ts++[⟨0,1,t,b,w⟩]) (some (.d (.int k))) (some (.d (.int n))) (some (.d (.int 0))) (some (.d (.int 1))) (some (.d (.int m))) (some (.d (.tuple [.int 0,.int 1]))),?_,.mk hd2 ⟨by show(0:Int)≤0;decide,by show(0:Int) < 1;decide,by show(1:Int) < things;lia,c2,c3,c4,c5,w2,w3,c6⟩⟩
    simp? [tE,iJ,tn,tm,aO,g1,g2,eM,b12,b107,ha,c1,w1,mv,be,hlen]
    decide
  · refine⟨tE d2 things many shape odds ws (ts++[⟨min one ((one+1+(n / 12) % (things - 1)) % things),max one ((one+1+(n / 12) % (things - 1)) % things),t,b,w⟩]) (some (.d (.int k))) (some (.d (.int n))) (some (.d (.int one))) (some (.d (.int ((one+1+(n / 12) % (things - 1)) % things)))) (some (.d (.int m))) (some (.d (.tuple [.int (min one ((one+1+(n / 12) % (things - 1)) % things)),.int (max one ((one+1+(n / 12) % (things - 1)) % things))]))),?_,.mk hd2 ⟨by show 0≤min _ _;lia,by show min _ _ < max _ _;lia,by show max _ _ < _;lia,c2,c3,c4,c5,w2,w3,c6⟩⟩
    simp? [tE,iJ,tn,tm,aO,g1,g2,eM,b12,b107,ha,c1,w1,mv,be,hlen,c]
theorem vR(ds:List Int)(things many:Int)(hd:fQ ds)(h2:2≤things)(h12:things≤100)(m0:0≤many)(m1:many≤1000):∃(ts:List mr) (ds':List Int),jg [.l (ds.map .int),.d (.int things),.d (.int many)]=some (.d (.tuple (ts.map be)),[.l (ds'.map .int),.d (.int things),.d (.int many)])∧fQ ds'∧(ts.length:Int)=many∧∀t∈ts,t.Ok things:=by
  obtain⟨n0,d1,t0, -, -,hd1⟩:=hV hd
  obtain⟨n1,d2,t1, -, -,hd2⟩:=hV hd1
  obtain⟨n2,d3,t2, -, -,hd3⟩:=hV hd2
  obtain⟨e',h1,hI⟩:=cI (own:=[]) (g:=ah 7) (f:=iJ) (TI things many (n0 % 6) (n1 % 4) (n2 % 4)) (bu 0 many.toNat) 0 (tE d3 things many (n0 % 6) (n1 % 4) (n2 % 4) [] none none none none none none) (fun i x e hx hI=>by
    obtain⟨rfl,hi⟩:=cy hx
    obtain⟨hd',hl,ht⟩:=hI
    rename_i ts ds' w7 w8 w9 w10 w11 w12
    obtain⟨e9,s1,⟨s2,s3⟩⟩:=GS ds' things many (n0 % 6) (n1 % 4) (n2 % 4) ts (0+(i:Int)) w8 w9 w10 w11 w12 hd' h2 h12 (yE ⋯) (yF ⋯) ↥0 ↥0
    exact⟨_,_,rfl,s1,bh,.mk s2 ↥7 fun z hz=>by
      rcases LH hz with hz | hz
      · exact ht z hz
      · simp at hz;subst hz;exact s3⟩) (.mk hd3 rfl fun t ht=>by cases ht)
  obtain⟨hd',hl,ht⟩:=hI
  rename_i ts ds' w7 w8 w9 w10 w11 w12
  refine⟨ts,ds',?_,hd',by rw [hl,dD];lia,ht⟩
  have hf:∀W,cN W oO (ah 7) iJ (tE d3 things many (n0 % 6) (n1 % 4) (n2 % 4) [] none none none none none none)=some (.nx (tE ds' things many (n0 % 6) (n1 % 4) (n2 % 4) ts w7 w8 w9 w10 w11 w12)):=fun W=>by
    rw [cQ (show oO _=some (bu 0 many.toNat,[],tE d3 things many (n0 % 6) (n1 % 4) (n2 % 4) [] none none none none none none) from cV (n:=many) (by simp? [tE]) ↥0 ↥0)]
    exact h1
  unfold tE at hf
  simp only [List.map_nil] at hf
  simp? [jg,yS,t0,t1,t2,aO,hf]
abbrev wE(ds:List Int)(most tn things many:Int)(ts:List mr)(way:Int)(ps:List Int)(v8 v9:Option Sv):En:=[some (.l (ds.map .int)),some (.d (.int most)),some (.d (.int tn)),some (.d (.int things)),some (.d (.int many)),some (.d (.tuple (ts.map be))),some (.d (.int way)),some (.l (ps.map .int)),v8,v9]
inductive WI (most tn things many:Int) (ts:List mr) (way:Int) (i:Nat):En→Prop
  | mk {ps ds w8} (hd:fQ ds) (hpl:ps.length=i) (hps:∀p∈ps,0≤p∧p≤20):WI most tn things many ts way i (wE ds most tn things many ts way ps w8 none)
theorem GT(ds:List Int)(most tn:Int)(hd:fQ ds)(m0:0≤most)(m1:most≤12)(k0:0≤tn)(k1:tn≤16):∃(W:aZ) (ds':List Int),tW [.l (ds.map .int),.d (.int most),.d (.int tn)]=some (.d (aI W),[.l (ds'.map .int),.d (.int most),.d (.int tn)])∧fQ ds'∧W.Ok∧W.things≤most∧(W.ties.length:Int)≤tn:=by
  obtain⟨n0,d1,t0, -, -,hd1⟩:=hV hd
  obtain⟨n1,d2,t1, -, -,hd2⟩:=hV hd1
  have mp:0 < most+1:=Int.lt_add_one_of_le m0
  have kp:0 < tn+1:=Int.lt_add_one_of_le k0
  have g0:∀(e:En),ba e (.d (.int n0)) (.d (.int (most+1)))=some (.d (.int (n0 % (most+1)))):=fun e=>aO mp
  have g1':∀(e:En),ba e (.d (.int n1)) (.d (.int (tn+1)))=some (.d (.int (n1 % (tn+1)))):=fun e=>aO kp
  have th0:0≤n0 % (most+1):=yE mp
  have th1:n0 % (most+1) < most+1:=yF mp
  have ti0:0≤n1 % (tn+1):=yE kp
  have ti1:n1 % (tn+1) < tn+1:=yF kp
  clear mp kp
  generalize n0 % (most+1)=things at th0 th1 g0
  generalize n1 % (tn+1)=tm at ti0 ti1 g1'
  obtain⟨many,hmany,mm,m00,m01⟩:∃many:Int,many=tm*(if decide (1 < things)=true then 1 else 0)∧(1 < things∨many=0)∧0≤many∧many≤tn:=by
    by_cases c:1 < things
    · exact⟨tm,by simp [c],.inl c,ti0,by lia⟩
    · exact⟨0,by simp [c],.inr rfl,by lia,by lia⟩
  have gm:∀e:En,bQ e (.d (.int tm)) (.d (.int (if decide (1 < things)=true then 1 else 0)))=some (.d (.int many)):=fun e=>by
    rw [bT (si (by split<;>decide) (by split<;>decide)),hmany]
  have gi:∀e:En,g1 mw e [.d (.bool (decide (1 < things)))]=some (.d (.int (if decide (1 < things)=true then 1 else 0))):=fun e=>rfl
  generalize (if decide (1 < things)=true then 1 else 0:Int)=one at gm gi
  obtain⟨ts,d3,t3,hd3,hlen,hts⟩:=vR d2 (max 2 things) many hd2 ↥0 ↥0 m00 ↥0
  obtain⟨n4,d4,t4, -, -,hd4⟩:=hV hd3
  obtain⟨e',h1,hI⟩:=cI (own:=[]) (g:=ah 8) (f:=n_) (WI most tn things many ts (n4 % 3)) (bu 0 things.toNat) 0 (wE d4 most tn things many ts (n4 % 3) [] none none) (fun i x e hx hI=>by
    obtain⟨rfl,hi⟩:=cy hx
    obtain⟨hd5,hpl,hps⟩:=hI
    rename_i ps d5 w8
    obtain⟨p1,d6,t6, -, -,hd6⟩:=hV hd5
    obtain⟨p2,d7,t7, -, -,hd7⟩:=hV hd6
    obtain⟨z,hz,ha⟩:=kO (xs:=[PyData.int 20,.int (1+p1 % 3),.int (p2 % 21)]) (i:=n4 % 3) (yE ⋯) (yF (k:=3) ⋯)
    obtain⟨p,rfl,hp⟩:∃r,z=.int r∧0≤r∧r≤20:=by
      simp only [List.mem_cons,List.not_mem_nil,or_false] at hz
      rcases hz with rfl | rfl | rfl<;>exact⟨_,rfl,by lia,by lia⟩
    refine⟨wE d5 most tn things many ts (n4 % 3) ps (some (.d (.int (0+(i:Int))))) none,wE d7 most tn things many ts (n4 % 3) (ps++[p]) (some (.d (.int (0+(i:Int))))) none,rfl,?_,bh,.mk hd7 ↥7 fun q hq=>by
      rcases LH hq with hq | hq
      · exact hps q hq
      · simp at hq;subst hq;exact hp⟩
    have hlen:ps.length < 1000000:=by lia
    simp? [wE,n_,t6,t7,aO,ha,hlen]) (.mk hd4 rfl fun p hp=>by cases hp)
  obtain⟨hd5,hpl,hps⟩:=hI
  rename_i ps d5 w8
  have hf:∀W,cN W rZ (ah 8) n_ (wE d4 most tn things many ts (n4 % 3) [] none none)=some (.nx (wE d5 most tn things many ts (n4 % 3) ps w8 none)):=fun W=>by
    rw [cQ (show rZ _=some (bu 0 things.toNat,[],wE d4 most tn things many ts (n4 % 3) [] none none) from cV (n:=things) (by simp? [wE]) ↥0 ↥0)]
    exact h1
  obtain⟨p1,d6,t6, -, -,hd6⟩:=hV hd5
  obtain⟨p2,d7,t7, -, -,hd7⟩:=hV hd6
  obtain⟨p3,d8,t8, -, -,hd8⟩:=hV hd7
  have xp:0 < max 1 many:=Int.lt_of_lt_of_le Int.zero_lt_one (Int.le_max_left _ _)
  have gx:∀(e:En),ba e (.d (.int p1)) (.d (.int (max 1 many)))=some (.d (.int (p1 % max 1 many))):=fun e=>aO xp
  have x0:0≤p1 % max 1 many:=yE xp
  have x1:p1 % max 1 many < max 1 many:=yF xp
  obtain⟨z,hz,ha⟩:=kO (xs:=[PyData.int 40,.int (1+p1 % max 1 many),.int (p2 % 41)]) (i:=p3 % 3) (yE ⋯) (yF (k:=3) ⋯)
  obtain⟨asks,rfl,hasks⟩:∃r,z=.int r∧0≤r∧r≤40:=by
    simp only [List.mem_cons,List.not_mem_nil,or_false] at hz
    rcases hz with rfl | rfl | rfl<;>exact⟨_,rfl,by lia,by lia⟩
  rw [dD] at hpl
  refine⟨⟨things,ts,ps,asks⟩,d8,?_,hd8,⟨th0,by show things≤12;lia,fun t ht=>?_,by show ts.length≤16;lia,by show(ps.length:Int)=things;lia,hps,hasks.1,hasks.2⟩,by show things≤most;lia,by show(ts.length:Int)≤tn;lia⟩
  · unfold wE at hf
    simp only [List.map_nil] at hf
    simp? [tW,C0,t0,t1,g0,g1',gm,gi,t3,t4,aO,hf,t6,t7,t8,gx,ha,aI]
  · rcases mm with c | c
    · have:=hts t ht
      rw [show max 2 things=things by lia] at this
      exact this
    · have:ts=[]:=List.length_eq_zero_iff.mp ↥0
      subst this;cases ht
theorem rh{W:aZ}{asked:List Int}{thing:Int}(h:∀k∈asked,lh W k)(hl:asked.length≤1000):gu [.d (aI W),.d (.tuple (asked.map .int)),.d (.int thing)]=some (.d (.int (W.many asked thing)),[.d (aI W),.d (.tuple (asked.map .int)),.d (.int thing)]):=by
  let cs:En:=[some (.d (.int thing)),some (.d (aI W))]
  have hc:∀x∈asked.map PyData.int,e_ (cs++[some (.d x)])=some (vA (fun k=>W.has k thing) x,cs++[some (.d x)]):=fun x hx=>by
    obtain⟨k,hk,rfl⟩:=LI hx
    simp? [vA,cs,e_,aI,jz (h k hk),be,aZ.has]
  have he:∀x∈asked.map PyData.int,vA (fun k=>W.has k thing) x=true→fg (cs++[some (.d x)])=some (.d (id x),cs++[some (.d x)]):=fun x hx _=>by
    simp? [cs,fg]
  obtain⟨t',hf⟩:=ce (cs:=cs) (ft:=e_) (fe:=fg) (b:=vA (fun k=>W.has k thing)) (y:=id) (asked.map PyData.int) none [] hc he ↥7
  have hv:=j1 (cp:=[(2,"_law_thing"),(0,"_law_web_here")]) (nT:=1) (fi:=nE) (g:=ah 2) (ft:=e_) (fe:=fg) (e:=[some (.d (aI W)),some (.d (.tuple (asked.map PyData.int))),some (.d (.int thing))]) (cs:=cs) (t:=[none]) (t':=[t']) (mz (fa:=af 1) rfl) rfl rfl hf
  have hlen:(([]++List.map id (List.filter (vA (fun k=>W.has k thing)) (asked.map PyData.int))).length:Int)=W.many asked thing:=by
    unfold aZ.many
    simp [List.filter_map]
    rfl
  simp only [gu,qm,fP,jQ,aG,kg,br,eF,aV,cZ,ku,nW,qe,aQ,aq,pW,af,vC,cO,aj,aa,bg,aM,bM,lb,wa,lg,yy,js,uI,nO,sU,fK,eJ,ck,bv,tX,et,gH,kW,dz,bA,p9,sR,bI,aB,ah,bz,cc,aN,bi,sj,dI,dm,cU,ic,io,ik,ig,ie,fx,fw,fy,dN,fj,nu,fm,jG,nA,jJ,il,jH,jI,fD,fB,dO,fF,jp,i4,dg,jx,jy,m5,dM,dJ,ej,ii,List.replicate, -List.map_nil, -List.map_cons, -List.nil_append, -List.cons_append, -Option.bind_some, -Option.map_some, -getElem?_pos, -List.append_nil,ni,nh,m8,m7,m_,ng,m9,nj]
  simp? [hv]
  simpa using hlen
theorem zQ{W:aZ}(ok:W.Ok){thing:Int}(h0:0≤thing)(h1:thing < W.things):atI (W.pat.map PyData.int) thing=some (.int (W.pat.getD thing.toNat 0)):=yM h0 (by have:=ok.pl;lia)
theorem GQ{W:aZ}(ok:W.Ok){asked taken:List Int}{k:Int}(h:∀k∈asked,lh W k)(hl:asked.length≤1000)(hk:lh W k):lP [.d (aI W),.d (m6 asked taken),.d (.int k)]=some (.d (.bool (W.may asked taken k)),[.d (aI W),.d (m6 asked taken),.d (.int k)]):=by
  have tk:=hk.ok ok
  have t0:=tk.o0
  have t1:=tk.o1
  have t2:=tk.o2
  have p1:=zQ ok (thing:=(W.tie k).one) ↥0 ↥0
  have p2:=zQ ok (thing:=(W.tie k).other) ↥0 ↥0
  have a1:=rh (W:=W) (asked:=asked) (thing:=(W.tie k).one) h hl
  have a2:=rh (W:=W) (asked:=asked) (thing:=(W.tie k).other) h hl
  rw [cG] at a1 a2 ⊢
  unfold aZ.may aZ.bears
  by_cases c1:asked.contains k=true
  · simp? [lP,qo,m6,c1]
    simp at c1
    simp [c1]
  · by_cases c2:W.asks≤(asked.length:Int)
    · have c1':k∉asked:=by simpa using c1
      simp? [lP,qo,m6,c1',c2]
    · have c1':k∉asked:=by simpa using c1
      have turn:∀(thing:Int) (v5:Option Sv),gu [.d (.tuple [.int W.things,.tuple (W.ties.map be),.tuple (W.pat.map .int),.int W.asks]),.d (.tuple (asked.map .int)),.d (.int thing)]=some (.d (.int (W.many asked thing)),[.d (.tuple [.int W.things,.tuple (W.ties.map be),.tuple (W.pat.map .int),.int W.asks]),.d (.tuple (asked.map .int)),.d (.int thing)])→atI (W.pat.map PyData.int) thing=some (.int (W.pat.getD thing.toNat 0))→
          i5 [some (.d (.tuple [.int W.things,.tuple (W.ties.map be),.tuple (W.pat.map .int),.int W.asks])),some (.d (m6 asked taken)),some (.d (.int k)),some (.d (.tuple (asked.map .int))),some (.d (.tuple (taken.map .int))),some (.d (.int thing))]=(if (!taken.contains thing&&decide (W.many asked thing < W.pat.getD thing.toNat 0))=true then some (.nx [some (.d (.tuple [.int W.things,.tuple (W.ties.map be),.tuple (W.pat.map .int),.int W.asks])),some (.d (m6 asked taken)),some (.d (.int k)),some (.d (.tuple (asked.map .int))),some (.d (.tuple (taken.map .int))),some (.d (.int thing))]) else some (.rt (.d (.bool false)) [some (.d (.tuple [.int W.things,.tuple (W.ties.map be),.tuple (W.pat.map .int),.int W.asks])),some (.d (m6 asked taken)),some (.d (.int k)),some (.d (.tuple (asked.map .int))),some (.d (.tuple (taken.map .int))),some (.d (.int thing))])):=by
        intro thing v5 ha hp
        by_cases d1:taken.contains thing=true
        · have d1':thing∈taken:=by simpa using d1
          simp? [i5,d1']
        · have d1':thing∉taken:=by simpa using d1
          by_cases d2:W.many asked thing < W.pat.getD thing.toNat 0
          · have d2':¬W.pat.getD thing.toNat 0≤W.many asked thing:=by lia
            simp only [List.getD_eq_getElem?_getD] at d2 d2' hp
            simp? [i5,d1',ha,hp,d2,d2']
          · have d2':W.pat.getD thing.toNat 0≤W.many asked thing:=by lia
            simp only [List.getD_eq_getElem?_getD] at d2 d2' hp
            simp? [i5,d1',ha,hp,d2,d2']
      have u1:=turn (W.tie k).one none a1 p1
      have u2:=turn (W.tie k).other none a2 p2
      have hf:∀Wl,cN Wl wH (ah 5) i5 [some (.d (.tuple [.int W.things,.tuple (W.ties.map be),.tuple (W.pat.map .int),.int W.asks])),some (.d (m6 asked taken)),some (.d (.int k)),some (.d (.tuple (asked.map .int))),some (.d (.tuple (taken.map .int))),none]=iz [] (ah 5) i5 [.int (W.tie k).one,.int (W.tie k).other] [some (.d (.tuple [.int W.things,.tuple (W.ties.map be),.tuple (W.pat.map .int),.int W.asks])),some (.d (m6 asked taken)),some (.d (.int k)),some (.d (.tuple (asked.map .int))),some (.d (.tuple (taken.map .int))),none]:=fun Wl=>by
        rw [cQ]
        exact mz (by simp? [jz hk,be])
      unfold m6 at u1 u2 hf ⊢
      by_cases e1:(!taken.contains (W.tie k).one&&decide (W.many asked (W.tie k).one < W.pat.getD (W.tie k).one.toNat 0))=true
      · by_cases e2:(!taken.contains (W.tie k).other&&decide (W.many asked (W.tie k).other < W.pat.getD (W.tie k).other.toNat 0))=true
        · rw [if_pos e1] at u1
          rw [if_pos e2] at u2
          rw [e1,e2]
          simp only [lP,qo,fP,jQ,aG,kg,br,eF,aV,cZ,ku,nW,qe,aQ,aq,pW,af,vC,cO,aj,aa,bg,aM,bM,lb,wa,lg,yy,js,uI,nO,sU,fK,eJ,ck,bv,tX,et,gH,kW,dz,bA,p9,sR,bI,aB,ah,bz,cc,aN,bi,sj,dI,dm,cU,ic,io,ik,ig,ie,fx,fw,fy,dN,fj,nu,fm,jG,nA,jJ,il,jH,jI,fD,fB,dO,fF,jp,i4,dg,jx,jy,m5,dM,dJ,ej,ii,List.replicate, -List.map_nil, -List.map_cons, -List.nil_append, -List.cons_append, -Option.bind_some, -Option.map_some, -getElem?_pos, -List.append_nil,ni,nh,m8,m7,m_,ng,m9,nj]
          simp? [c1',c2,hf,iz,u1,u2,bh]
        · rw [if_pos e1] at u1
          rw [if_neg e2] at u2
          rw [e1,Bool.not_eq_true _ |>.mp e2]
          simp only [lP,qo,fP,jQ,aG,kg,br,eF,aV,cZ,ku,nW,qe,aQ,aq,pW,af,vC,cO,aj,aa,bg,aM,bM,lb,wa,lg,yy,js,uI,nO,sU,fK,eJ,ck,bv,tX,et,gH,kW,dz,bA,p9,sR,bI,aB,ah,bz,cc,aN,bi,sj,dI,dm,cU,ic,io,ik,ig,ie,fx,fw,fy,dN,fj,nu,fm,jG,nA,jJ,il,jH,jI,fD,fB,dO,fF,jp,i4,dg,jx,jy,m5,dM,dJ,ej,ii,List.replicate, -List.map_nil, -List.map_cons, -List.nil_append, -List.cons_append, -Option.bind_some, -Option.map_some, -getElem?_pos, -List.append_nil,ni,nh,m8,m7,m_,ng,m9,nj]
          simp? [c1',c2,hf,iz,u1,u2,bh]
      · rw [if_neg e1] at u1
        rw [Bool.not_eq_true _ |>.mp e1]
        simp only [lP,qo,fP,jQ,aG,kg,br,eF,aV,cZ,ku,nW,qe,aQ,aq,pW,af,vC,cO,aj,aa,bg,aM,bM,lb,wa,lg,yy,js,uI,nO,sU,fK,eJ,ck,bv,tX,et,gH,kW,dz,bA,p9,sR,bI,aB,ah,bz,cc,aN,bi,sj,dI,dm,cU,ic,io,ik,ig,ie,fx,fw,fy,dN,fj,nu,fm,jG,nA,jJ,il,jH,jI,fD,fB,dO,fF,jp,i4,dg,jx,jy,m5,dM,dJ,ej,ii,List.replicate, -List.map_nil, -List.map_cons, -List.nil_append, -List.cons_append, -Option.bind_some, -Option.map_some, -getElem?_pos, -List.append_nil,ni,nh,m8,m7,m_,ng,m9,nj]
        simp? [c1',c2,hf,iz,u1,bh]
theorem uB{W:aZ}{asked taken:List Int}{k:Int}(truth:Bool)(hk:lh W k)(h1:asked.length < 60)(h2:taken.length < 60):gP [.d (aI W),.d (m6 asked taken),.d (.int k),.d (.bool truth)]=some (.d (m6 (aZ.askd asked k) (W.took taken k truth)),[.d (aI W),.d (m6 asked taken),.d (.int k),.d (.bool truth)]):=by
  have s1:∀e,g1 i_ e [.d (.tuple (asked.map PyData.int++[.int k]))]=some (.l ((jY (asked++[k])).map .int)):=fun e=>by
    have:=oM (e:=e) (ns:=asked++[k]) ↥7
    simpa using this
  have s2:∀e,g1 i_ e [.d (.tuple (taken.map PyData.int++[.int (W.tie k).one,.int (W.tie k).other]))]=some (.l ((jY (taken++[(W.tie k).one,(W.tie k).other])).map .int)):=fun e=>by
    have:=oM (e:=e) (ns:=taken++[(W.tie k).one,(W.tie k).other]) ↥7
    simpa using this
  have g1':∀e,bL e (.d (.tuple (asked.map .int))) (.d (.tuple [.int k]))=some (.d (.tuple (asked.map .int++[.int k]))):=fun e=>mv ↥7
  have g2':∀e,bL e (.d (.tuple (taken.map .int))) (.d (.tuple [.int (W.tie k).one,.int (W.tie k).other]))=some (.d (.tuple (taken.map .int++[.int (W.tie k).one,.int (W.tie k).other]))):=fun e=>mv ↥7
  rw [cG]
  cases truth with
  | true=>simp? [gP,oB,m6,jz hk,be,g1',g2',s1,s2,aZ.askd,aZ.took]
  | false=>simp? [gP,oB,m6,g1',s1,aZ.askd,aZ.took]
theorem yo{W:aZ}(ok:W.Ok){asked taken:List Int}(h:∀k∈asked,lh W k)(hl:asked.length≤1000):iP [.d (aI W),.d (m6 asked taken)]=some (.l ((W.can asked taken).map .int),[.d (aI W),.d (m6 asked taken)]):=by
  let cs:En:=[some (.d (aI W)),some (.d (m6 asked taken))]
  have wl:=ok.len
  have hc:∀x∈bu 0 W.ties.length,eZ (cs++[some (.d x)])=some (vA (fun k=>W.may asked taken k) x,cs++[some (.d x)]):=fun x hx=>by
    obtain⟨i,hi⟩:=List.getElem?_of_mem hx
    obtain⟨rfl,hi⟩:=cy hi
    have:=GQ ok (taken:=taken) h hl (k:=0+(i:Int)) ⟨by lia,by lia⟩
    simp only [Int.zero_add] at this
    simp? [vA,cs,eZ,this]
  have he:∀x∈bu 0 W.ties.length,vA (fun k=>W.may asked taken k) x=true→ff (cs++[some (.d x)])=some (.d (id x),cs++[some (.d x)]):=fun x hx _=>by
    simp? [cs,ff]
  obtain⟨t',hf⟩:=ce (cs:=cs) (ft:=eZ) (fe:=ff) (b:=vA (fun k=>W.may asked taken k)) (y:=id) (bu 0 W.ties.length) none [] hc he (by rw [dD];simp;lia)
  have hv:=j1 (cp:=[(0,"_law_web_here"),(1,"_law_stand")]) (nT:=1) (fi:=jM) (g:=ah 2) (ft:=eZ) (fe:=ff) (e:=[some (.d (aI W)),some (.d (m6 asked taken))]) (cs:=cs) (t:=[none]) (t':=[t']) (show jM [some (.d (aI W)),some (.d (m6 asked taken))]=some (bu 0 W.ties.length,[],[some (.d (aI W)),some (.d (m6 asked taken))]) from cV (n:=(W.ties.length:Int)) (by rw [cG];simp? [List.replicate]) ↥0 ↥0) rfl rfl hf
  rw [List.nil_append,List.map_id,yg] at hv
  simp only [iP,qk,fP,jQ,aG,kg,br,eF,aV,cZ,ku,nW,qe,aQ,aq,pW,af,vC,cO,aj,aa,bg,aM,bM,lb,wa,lg,yy,js,uI,nO,sU,fK,eJ,ck,bv,tX,et,gH,kW,dz,bA,p9,sR,bI,aB,ah,bz,cc,aN,bi,sj,dI,dm,cU,ic,io,ik,ig,ie,fx,fw,fy,dN,fj,nu,fm,jG,nA,jJ,il,jH,jI,fD,fB,dO,fF,jp,i4,dg,jx,jy,m5,dM,dJ,ej,ii,List.replicate, -List.map_nil, -List.map_cons, -List.nil_append, -List.cons_append, -Option.bind_some, -Option.map_some, -getElem?_pos, -List.append_nil,ni,nh,m8,m7,m_,ng,m9,nj]
  simp? [hv]
def gE(ds:List Int)(W:aZ)(most:Int)(T:List Nd)(ws:List Wt)(v5 v6 v7 v8 v9 v10:Option Sv):En:=[some (.l (ds.map .int)),some (.d (aI W)),some (.d (.int most)),some (.n (T.map xU)),some (.l (ws.map yD)),v5,v6,v7,v8,v9,v10]
theorem Fg{W:aZ}(ok:W.Ok){ds:List Int}{most:Int}{T:List Nd}{S:Nat→Std}{w:Wt}{ws:List Wt}{v5 v6 v7 v8 v9 v10:Option Sv}(hd:fQ ds)(h:rC W T S (w::ws))(hT:T.length≤1000)(hw:ws.length≤5000):
    ∃ds' T' S' ws' u5 u6 u7 u8 u9 u10,cK (gE ds W most T (w::ws) v5 v6 v7 v8 v9 v10)=some (.nx (gE ds' W most T' ws' u5 u6 u7 u8 u9 u10))∧fQ ds'∧rC W T' S' ws'∧((T'.length=T.length∧ws'.length=ws.length)∨((T.length:Int) < most∧T'.length=T.length+1∧ws'.length=ws.length+2)):=by
  obtain⟨n,d1,t1, -, -,hd1⟩:=hV hd
  obtain⟨hs,hp⟩:=h.wt w ↥1
  have hl:=hs.len
  have hl2:=hs.tk
  have wl:=ok.len
  have ta:=yo ok (asked:=w.st.1) (taken:=w.st.2) hs.inw ↥0
  have q8:∀e:En,e[8]?=some (some (.l ((W.can w.st.1 w.st.2).map .int)))→di true e (.s 8) (.l [])=some (.d (.bool (!((W.can w.st.1 w.st.2).map PyData.int).isEmpty))):=fun e he=>by
    have:=lK (neg:=true) he (jW _).1
    simpa using this
  have gm:∀e:En,ba e (.d (.int n)) (.d (.int 7))=some (.d (.int (n % 7))):=fun e=>aO ⋯
  have gd:∀e:En,eh e (.d (.int n)) (.d (.int 7))=some (.d (.int (n / 7))):=fun e=>eM ⋯ (kR ⋯ ⋯)
  by_cases c:(W.can w.st.1 w.st.2)≠[]∧(T.length:Int) < most∧(n % 7≠6∨w.par < 0)
  case neg=>
    refine⟨d1,T,S,ws,some (.d (m6 w.st.1 w.st.2)),some (.d (.int w.par)),some (.d (.int w.side)),some (.l ((W.can w.st.1 w.st.2).map .int)),some (.d (.int n)),v10,?_,hd1,h.less,.inl ⟨rfl,rfl⟩⟩
    by_cases c1:W.can w.st.1 w.st.2=[]
    · rw [c1] at ta q8
      simp? [gE,cK,t1,ta,yD,q8,c1]
    · by_cases c2:(T.length:Int) < most
      · have c3:n % 7=6:=by
          by_cases z:n % 7=6
          · exact z
          · exact absurd ⟨c1,c2,.inl z⟩ c
        have c4:¬w.par < 0:=fun z=>c ⟨c1,c2,.inr z⟩
        simp? [gE,cK,t1,ta,yD,q8,gm,gd,c1,c2,c3,c4,j2,dj]
      · simp? [gE,cK,t1,ta,yD,q8,gm,gd,c1,c2,j2,dj]
  case pos=>
    obtain⟨c1,c2,c3⟩:=c
    have cl:0 < (W.can w.st.1 w.st.2).length:=List.length_pos_iff.mpr c1
    have gx:∀e:En,ba e (.d (.int (n / 7))) (.d (.int (W.can w.st.1 w.st.2).length))=some (.d (.int (n / 7 % (W.can w.st.1 w.st.2).length))):=fun e=>aO ↥0
    have x0:0≤n / 7 % ((W.can w.st.1 w.st.2).length:Int):=Int.emod_nonneg _ ↥0
    have x1:n / 7 % ((W.can w.st.1 w.st.2).length:Int) < (W.can w.st.1 w.st.2).length:=Int.emod_lt_of_pos _ ↥0
    obtain⟨z,hz,hat⟩:=kO (xs:=(W.can w.st.1 w.st.2).map PyData.int) x0 (by rw [List.length_map];exact x1)
    obtain⟨k,hk,rfl⟩:=LI hz
    obtain⟨k1,k2⟩:=Bh hk
    have b1:=uB (W:=W) (asked:=w.st.1) (taken:=w.st.2) true k1 ↥0 ↥0
    have b2:=uB (W:=W) (asked:=w.st.1) (taken:=w.st.2) false k1 ↥0 ↥0
    have more:=h.more ok k1 k2
    have tl:T.length < 1000000:=by lia
    have wl1:ws.length < 1000000:=by lia
    have wl2:ws.length+1 < 1000000:=by lia
    have c3':n % 7=6→w.par < 0:=fun z=>by
      rcases c3 with c3 | c3
      · exact absurd z c3
      · exact c3
    refine⟨d1,_,_,_,some (.d (m6 w.st.1 w.st.2)),some (.d (.int w.par)),some (.d (.int w.side)),some (.l ((W.can w.st.1 w.st.2).map .int)),some (.d (.int n)),some (.d (.int k)),?_,hd1,more,.inr ⟨c2,by simp;split<;>simp,by simp⟩⟩
    rcases hp with z | ⟨p,x,z1,z2,z3⟩
    · have g0:¬0≤w.par:=by lia
      have g1:w.par < 0:=by lia
      rw [if_neg g0]
      simp? [gE,cK,t1,ta,yD,q8,gm,gd,gx,c1,c2,hat,b1,b2,g0,g1,tl,wl1,wl2,j2,dj,rA,nxt,xU]
    · have g0:0≤w.par:=by lia
      have g1:¬n % 7=6:=fun z=>by have:=c3' z;lia
      have pt:w.par.toNat=p:=by lia
      have pl:p < T.length:=(LG z2).1
      rw [if_pos g0,pt]
      have hix:r6 T.length w.par=some p:=by unfold r6;rw [if_pos g0,if_pos ↥0,pt]
      have i1:r6 3 1=some 1:=rfl
      have i2:r6 3 2=some 2:=rfl
      rcases z3 with ⟨s0,s1⟩ | ⟨s0,s1⟩
      · have sl:=yi (n:=T.length) z2
        rw [s0]
        simp? [gE,cK,t1,ta,yD,q8,gm,gd,gx,c1,c2,hat,b1,b2,g0,g1,tl,wl1,wl2,j2,dj,rA,uk,zD,nC,zE,hix,i1,i2,z2,s0,nxt,xU,←sl]
      · have sl:=yj (n:=T.length) z2
        rw [s0]
        simp? [gE,cK,t1,ta,yD,q8,gm,gd,gx,c1,c2,hat,b1,b2,g0,g1,tl,wl1,wl2,j2,dj,rA,uk,zD,nC,zE,hix,i1,i2,z2,s0,nxt,xU,←sl]
def BC(i:Nat)(e:En):Nat:=match dj e i with
  | some x=>x.length
  | none=>0
def Fh:PyData→PyData
  | .list xs=>.tuple xs
  | d=>d
theorem xo{W:aZ}(ok:W.Ok){ds:List Int}{most:Int}(hd:fQ ds)(m0:0≤most)(m1:most≤400):∃ds' T S,jf [.l (ds.map .int),.d (aI W),.d (.int most)]=some (.d (.tuple (T.map h_)),[.l (ds'.map .int),.d (aI W),.d (.int most)])∧fQ ds'∧iy W T S∧(T.length:Int)≤most:=by
  have q4:∀(ws:List Wt) (e:En),e[4]?=some (some (.l (ws.map yD)))→di true e (.s 4) (.l [])=some (.d (.bool (!(ws.map yD).isEmpty))):=fun ws e he=>by
    have:=lK (neg:=true) he ((Sh.list (n:=8) fun d hd=>by
      obtain⟨k,_,rfl⟩:=LI hd
      exact Sh.wt).ok ⋯)
    simpa using this
  have tst:∀ds T ws v5 v6 v7 v8 v9 v10,iM (gE ds W most T ws v5 v6 v7 v8 v9 v10)=some (!(ws.map yD).isEmpty,gE ds W most T ws v5 v6 v7 v8 v9 v10):=fun ds T ws v5 v6 v7 v8 v9 v10=>by
    have:=q4 ws (gE ds W most T ws v5 v6 v7 v8 v9 v10) rfl
    unfold gE at this ⊢
    simp? [iM,this]
  obtain⟨e0,e',hw,⟨d1,T,S,ws,v5,v6,v7,v8,v9,v10,rfl,hd1,hG,hT,hws⟩,hf⟩:=dH (ft:=iM) (f:=cK)
    (fun e=>∃ds T S ws v5 v6 v7 v8 v9 v10,e=gE ds W most T ws v5 v6 v7 v8 v9 v10∧fQ ds∧rC W T S ws∧(T.length:Int)≤most∧ws.length≤T.length+1)
    (fun e=>eI 4 e+2*(most.toNat - BC 3 e)) (fun e ⟨d1,T,S,ws,v5,v6,v7,v8,v9,v10,he,hd1,hG,hT,hws⟩=>by
      subst he
      cases ws with
      | nil=>exact .inl ⟨_,tst _ _ _ _ _ _ _ _ _,trivial⟩
      | cons w ws=>
        obtain⟨d2,T',S',ws',u5,u6,u7,u8,u9,u10,hb,hd2,hG2,hc⟩:=Fg ok (most:=most) (v5:=v5) (v6:=v6) (v7:=v7) (v8:=v8) (v9:=v9) (v10:=v10) hd1 hG ↥0 (by simp at hws;lia)
        simp only [List.length_cons] at hws
        refine .inr ⟨_,_,tst _ _ _ _ _ _ _ _ _,hb,⟨d2,T',S',ws',u5,u6,u7,u8,u9,u10,rfl,hd2,hG2,?_,?_⟩,?_⟩
        · rcases hc with hc | hc<;>lia
        · rcases hc with hc | hc<;>lia
        · have l1:∀ds T ws v5 v6 v7 v8 v9 v10,eI 4 (gE ds W most T ws v5 v6 v7 v8 v9 v10)=ws.length:=fun ds T ws v5 v6 v7 v8 v9 v10=>by simp [gE,eI]
          have l2:∀ds T ws v5 v6 v7 v8 v9 v10,BC 3 (gE ds W most T ws v5 v6 v7 v8 v9 v10)=T.length:=fun ds T ws v5 v6 v7 v8 v9 v10=>by simp [gE,BC,dj]
          simp only [l1,l2,List.length_cons]
          rcases hc with hc | hc<;>lia) (2 ^ 4200) (gE ds W most [] [⟨([],[]), -1,0⟩] none none none none none none)
    ⟨ds,[],fun _=>([],[]),[⟨([],[]), -1,0⟩],none,none,none,none,none,none,rfl,hd,⟨fun i x h=>(by simp at h),fun w hw=>(by simp at hw;subst hw;exact⟨oz.first W,.inl rfl⟩),fun w hw=>(by simp at hw;subst hw;exact .inl rfl)⟩,m0,by simp⟩
    (je (m:=20) (by simp [gE,eI,BC,dj];lia) ⋯)
  rw [tst] at hf
  have hw0:ws=[]:=by
    cases ws with
    | nil=>rfl
    | cons a r=>simp at hf
  subst hw0
  simp at hf
  subst hf
  refine⟨d1,T,S,?_,hd1,hG.tr,hT⟩
  obtain⟨t',hc⟩:=ce (cs:=[]) (ft:=bE) (fe:=j5) (b:=fun _=>true) (y:=Fh) ((T.map xU).map PyData.list) none [] (fun x hx=>rfl) (fun x hx _=>by
    obtain⟨xs,_,rfl⟩:=LI hx
    simp? [j5,Fh]) ↥7
  have hv:=j1 (cp:=[]) (nT:=1) (fi:=qM) (g:=ah 0) (ft:=bE) (fe:=j5) (e:=gE d1 W most T [] v5 v6 v7 v8 v9 v10) (e1:=(gE d1 W most T [] v5 v6 v7 v8 v9 v10).set 3 (some (.d (.list ((T.map xU).map .list))))) (cs:=[]) (t:=[none]) (t':=[t']) rfl rfl rfl hc
  have hl:([]++(((T.map xU).map PyData.list).filter fun _=>true).map Fh)=T.map h_:=by
    rw [List.nil_append,List.filter_eq_self.mpr ↥4,List.map_map,List.map_map]
    exact List.map_congr_left fun x _=>rfl
  rw [hl] at hv
  have hw':dG (2 ^ 4200) iM cK (gE ds W most [] [⟨([],[]), -1,0⟩] none none none none none none)=some (.nx (gE d1 W most T [] v5 v6 v7 v8 v9 v10)):=hw
  unfold gE at hv hw'
  simp only [List.map_cons,List.map_nil,yD,m6] at hw' hv
  simp only [List.set_cons_succ,List.set_cons_zero] at hv
  simp? [jf,wq,AI,hw',hv]
def rE(ds:List Int)(T:List Nd)(ws order:List Int)(v4 v5 v6:Option Sv):En:=[some (.l (ds.map .int)),some (.d (.tuple (T.map h_))),some (.l (ws.map .int)),some (.l (order.map .int)),v4,v5,v6]
theorem Cz{W:aZ}(ok:W.Ok){ds:List Int}{T:List Nd}{S:Nat→Std}{ws order:List Int}(hd:fQ ds)(h:iy W T S)(hw:∀w∈ws,0≤w∧w < (T.length:Int))(ho:∀w∈order,0≤w∧w < (T.length:Int))(h0:ws≠[])(hb:order.length+ek S ws≤65535):
    ∃ds' ws' w,cR (rE ds T ws order none none none)=some (.nx (rE ds' T ws' (order++[w]) none none none))∧fQ ds'∧(∀w∈ws',0≤w∧w < (T.length:Int))∧(0≤w∧w < (T.length:Int))∧ek S ws'+1≤ek S ws:=by
  obtain⟨n,d1,t1, -, -,hd1⟩:=hV hd
  have hlen:0 < ws.length:=List.length_pos_iff.mpr h0
  have hl2:=qK ok h hw
  have gx:∀e:En,ba e (.d (.int n)) (.d (.int ws.length))=some (.d (.int (n % ws.length))):=fun e=>aO ↥0
  have x0:0≤n % (ws.length:Int):=Int.emod_nonneg _ ↥0
  have x1:n % (ws.length:Int) < ws.length:=Int.emod_lt_of_pos _ ↥0
  generalize n % (ws.length:Int)=j at gx x0 x1
  have hj:j.toNat < ws.length:=by lia
  have hw0:ws[j.toNat]?=some ws[j.toNat]:=List.getElem?_eq_getElem hj
  have hwm:ws[j.toNat]∈ws:=List.getElem_mem _
  have hpop:=qL (S:=S) hj
  generalize ws[j.toNat]=w at hw0 hwm hpop
  obtain⟨w0,w1⟩:=hw w hwm
  have o:=h _ _ (iT w0 w1)
  have hh:=o.hang ok
  have j9:j < 1000000000:=by lia
  have ol:order.length < 1000000:=by lia
  let E:En:=rE d1 T (ws.eraseIdx j.toNat) (order++[w]) none none none
  obtain⟨t',hf⟩:=ce (cs:=[]) (ft:=dZ) (fe:=ee) (b:=vA fun l=>l != -1) (y:=id) [PyData.int (bO T w).yes,.int (bO T w).no] none [] (fun x hx=>by
    simp only [List.mem_cons,List.not_mem_nil,or_false] at hx
    rcases hx with rfl | rfl<;>simp? [dZ,vA,bne]) (fun x hx _=>by
    simp? [ee]) ↥1
  have hl:([]++([PyData.int (bO T w).yes,.int (bO T w).no].filter (vA fun l=>l != -1)).map id)=(Dd (bO T w)).map .int:=by
    rw [List.nil_append,List.map_id,show [PyData.int (bO T w).yes,.int (bO T w).no]=[(bO T w).yes,(bO T w).no].map PyData.int from rfl,List.filter_map]
    rfl
  rw [hl] at hf
  have hi:gL E=some ([PyData.int (bO T w).yes,.int (bO T w).no],[],E):=by
    refine mz ?_
    have a1:atI (order.map PyData.int++[PyData.int w]) (-1)=some (.int w):=xE
    simp? [E,rE,a1,rK w0 w1,h_]
  have hv:=j1 (cp:=[]) (nT:=1) (fi:=gL) (g:=ah 0) (ft:=dZ) (fe:=ee) (e:=E) (cs:=[]) (t:=[none]) (t':=[t']) hi rfl rfl hf
  have ln:(ws.eraseIdx j.toNat).length+(Dd (bO T w)).length≤1000000:=by
    have:(Dd (bO T w)).length≤2:=List.length_filter_le _ _
    rw [List.length_eraseIdx_of_lt hj]
    lia
  refine⟨d1,ws.eraseIdx j.toNat++Dd (bO T w),w,?_,hd1,fun v hv=>?_,⟨w0,w1⟩,?_⟩
  · simp only [E,rE,List.map_append,List.map_cons,List.map_nil] at hv
    simp only [rE,cR,List.map_append,List.map_cons,List.map_nil]
    simp? [t1,gx,x0,j9,hw0,qF,ol,hv,CG,mQ,ln]
  · rcases LH hv with hv | hv
    · exact hw v (List.mem_of_mem_eraseIdx hv)
    · exact D3 o v hv
  · rw [xQ];lia
theorem sN{W:aZ}(ok:W.Ok){ds:List Int}{T:List Nd}{S:Nat→Std}(hd:fQ ds)(h:iy W T S)(hT:T.length≤400):∃ds' T' S',er [.l (ds.map .int),.d (.tuple (T.map h_))]=some (.d (.tuple (T'.map h_)),[.l (ds'.map .int),.d (.tuple (T.map h_))])∧fQ ds'∧iy W T' S'∧T'.length≤65535:=by
  have q2:∀(ws:List Int) (e:En),e[2]?=some (some (.l (ws.map .int)))→di true e (.s 2) (.l [])=some (.d (.bool (!(ws.map PyData.int).isEmpty))):=fun ws e he=>by
    have:=lK (neg:=true) he (jW _).1
    simpa using this
  have tst:∀ds ws order,cT (rE ds T ws order none none none)=some (!(ws.map PyData.int).isEmpty,rE ds T ws order none none none):=fun ds ws order=>by
    have:=q2 ws (rE ds T ws order none none none) rfl
    unfold rE at this ⊢
    simp? [cT,this]
  let w0:List Int:=if T.length=0 then [] else [0]
  have hw0:∀w∈w0,0≤w∧w < (T.length:Int):=fun w hw=>by
    simp only [w0] at hw
    split at hw
    · cases hw
    · simp at hw;lia
  have hb0:ek S w0≤65535:=by
    simp only [w0]
    split
    · simp [ek]
    · have:2 ^ (16 - (S (0:Int).toNat).1.length)≤2 ^ 16:=Nat.pow_le_pow_right ⋯ ↥0
      simp [ek,hang] at this ⊢
      lia
  obtain⟨e0,e',hw,⟨d1,ws,order,rfl,hd1,hws,ho,hbd⟩,hf⟩:=dH (ft:=cT) (f:=cR)
    (fun e=>∃ds ws order,e=rE ds T ws order none none none∧fQ ds∧(∀w∈ws,0≤w∧w < (T.length:Int))∧(∀w∈order,0≤w∧w < (T.length:Int))∧order.length+ek S ws≤65535)
    (fun e=>65535 - eI 3 e) (fun e ⟨d1,ws,order,he,hd1,hws,ho,hbd⟩=>by
      subst he
      by_cases c:ws=[]
      · subst c
        exact .inl ⟨_,tst _ _ _,trivial⟩
      · obtain⟨d2,ws',w,hb,hd2,hws',hw',hh⟩:=Cz ok hd1 h hws ho c hbd
        have hl2:=qK ok h hws
        refine .inr ⟨_,_,(by rw [tst];simp [c]),hb,⟨d2,ws',order++[w],rfl,hd2,hws',fun v hv=>?_,by simp;lia⟩,?_⟩
        · rcases LH hv with hv | hv
          · exact ho v hv
          · simp at hv;rw [hv];exact hw'
        · have l1:∀ds ws order,eI 3 (rE ds T ws order none none none)=order.length:=fun ds ws order=>by simp [rE,eI]
          simp only [l1,List.length_append,List.length_cons,List.length_nil]
          lia) (2 ^ 4200) (rE ds T w0 [] none none none)
    ⟨ds,w0,[],rfl,hd,hw0,fun w hw=>(by cases hw),by simpa using hb0⟩
    (je (m:=20) (by simp [rE,eI]) ⋯)
  rw [tst] at hf
  have hw1:ws=[]:=by
    cases ws with
    | nil=>rfl
    | cons a r=>simp at hf
  subst hw1
  simp at hf
  subst hf
  obtain⟨e2,h1,⟨nums,v5,v6,he,hn⟩⟩:=cI (own:=[(3,order.map PyData.int)]) (g:=bI (aB (ah 5) (aB (ah 6) bz))) (f:=dY) (fun i e=>∃nums v5 v6,e=rE d1 T [] order (some (.l (nums.map .int))) v5 v6∧lm order T.length nums) (jo 0 (order.map .int)) 0 (rE d1 T [] order (some (.l ((List.replicate (T.length+1) (-1:Int)).map .int))) none none) (fun i x e hx ⟨nums,v5,v6,he,hn⟩=>by
    subst he
    rw [j6,List.getElem?_map,Option.map_map] at hx
    obtain⟨w,hw2,rfl⟩:=LF hx
    obtain⟨a0,a1⟩:=ho w (LK hw2)
    have hix:r6 nums.length w=some w.toNat:=by unfold r6;rw [if_pos a0,if_pos (by rw [hn.len];lia)]
    refine⟨rE d1 T [] order (some (.l (nums.map .int))) (some (.d (.int (i:Int)))) (some (.d (.int w))),rE d1 T [] order (some (.l ((nums.set w.toNat (i:Int)).map .int))) (some (.d (.int (i:Int)))) (some (.d (.int w))),?_,?_,?_,nums.set w.toNat (i:Int),_,_,rfl,hn.set hw2 a0 a1⟩
    · simp? [rE]
    · simp? [rE,dY,Cn,mQ,hix,List.map_set]
    · intro p hp
      simp at hp
      subst hp
      rfl) ⟨_,none,none,rfl,lm.first⟩
  subst he
  obtain⟨t',hc⟩:=ce (cs:=[some (.l (nums.map PyData.int)),some (.d (.tuple (T.map h_)))]) (ft:=bE) (fe:=ed) (b:=fun _=>true) (y:=Hw fun w=>h_ (renum T nums w)) (order.map PyData.int) none [] (fun x hx=>rfl) (fun x hx _=>by
    obtain⟨w,hw2,rfl⟩:=LI hx
    obtain⟨a0,a1⟩:=ho w hw2
    have o:=h _ _ (iT a0 a1)
    have y:=o.yes.rng
    have n:=o.no.rng
    have ny:atI (nums.map PyData.int) (bO T w).yes=some (.int (nm nums (bO T w).yes)):=De (by rw [hn.len];lia) (by rw [hn.len];lia)
    have nn:atI (nums.map PyData.int) (bO T w).no=some (.int (nm nums (bO T w).no)):=De (by rw [hn.len];lia) (by rw [hn.len];lia)
    have nd:=rK a0 a1
    simp? [ed,nd,ny,nn,Hw,h_,renum]) ↥7
  have hv:=yu (cp:=[(4,"_law_numbers"),(1,"_law_tree_here")]) (nT:=1) (fi:=jN) (g:=ah 2) (ft:=bE) (fe:=ed) (e:=rE d1 T [] order (some (.l (nums.map .int))) v5 v6) (cs:=[some (.l (nums.map PyData.int)),some (.d (.tuple (T.map h_)))]) (t:=[none]) (t':=[t']) (own:=[(3,order.map PyData.int)]) rfl rfl rfl rfl hc
  have hl:([]++((order.map PyData.int).filter fun _=>true).map (Hw fun w=>h_ (renum T nums w)))=(order.map (renum T nums)).map h_:=by
    rw [List.nil_append,List.filter_eq_self.mpr ↥4,List.map_map,List.map_map]
    exact List.map_congr_left fun x _=>rfl
  rw [hl] at hv
  refine⟨d1,order.map (renum T nums),_,?_,hd1,h.renum ho hn,by rw [List.length_map];lia⟩
  have hw':dG (2 ^ 4200) cT cR (rE ds T w0 [] none none none)=some (.nx (rE d1 T [] order none none none)):=hw
  have hfor:∀Wl:List Nat,3∉Wl→cN Wl jO (bI (aB (ah 5) (aB (ah 6) bz))) dY (rE d1 T [] order (some (.l ((List.replicate (T.length+1) (-1:Int)).map .int))) none none)=some (.nx (rE d1 T [] order (some (.l (nums.map .int))) v5 v6)):=fun Wl hWl=>by
    rw [AH (own:=[(3,order.map PyData.int)]) (items:=jo 0 (order.map .int)) (e1:=rE d1 T [] order (some (.l ((List.replicate (T.length+1) (-1:Int)).map .int))) none none) rfl (by simp [hWl])]
    exact h1
  have hw0':cutD [.int 0] none (some (T.length:Int))=w0.map .int:=by
    rw [FF]
    simp only [w0]
    split<;>rfl
  have gr:∀e:En,bQ e (.l [.int (-1)]) (.d (.int ((T.length:Int)+1)))=some (.l (List.replicate (T.length+1) (.int (-1)))):=fun e=>by
    rw [FK ↥0 ↥0]
    congr 3
  have hfor':=hfor [5,6] ⋯
  unfold rE at hv hw' hfor'
  simp only [List.map_replicate,List.map_nil,List.map_cons,List.replicate_succ] at hfor' hw' hv
  simp? [er,lu,FL,hw0',hw',gr,hfor',hv]
theorem sO{d:PyData}{n dep:Nat}(hz:Sz n dep d)(h1:n≤16777216)(h2:dep≤60):gR [.d d,.d d]=some (.d (.bool true),[.d d,.d d]):=by
  have r:∀e,g1 nB e [.d d]=some (.d (.str d.shown)):=fun e=>Bu (hz.ok h1 h2)
  have q:∀e,di false e (.d (.str d.shown)) (.d (.str d.shown))=some (.d (.bool true)):=fun e=>Bp hz.so
  simp? [gR,yR,r,q]
theorem Ff{W:aZ}(ok:W.Ok){ds:List Int}(great:Bool)(hd:fQ ds):∃ds' T S,mF [.l (ds.map .int),.d (aI W),.d (.bool great)]=some (.d (.tuple (T.map h_)),[.l (ds'.map .int),.d (aI W),.d (.bool great)])∧fQ ds'∧iy W T S∧T.length≤65535:=by
  obtain⟨n1,d1,t1, -, -,hd1⟩:=hV hd
  obtain⟨n2,d2,t2, -, -,hd2⟩:=hV hd1
  obtain⟨n3,d3,t3, -, -,hd3⟩:=hV hd2
  have gi:∀e:En,g1 mw e [.d (.bool great)]=some (.d (.int (if great=true then 1 else 0))):=fun e=>rfl
  have gm:∀e:En,bQ e (.d (.int 260)) (.d (.int (if great=true then 1 else 0)))=some (.d (.int (260*(if great=true then 1 else 0)))):=fun e=>bT (vq ⋯ ⋯)
  have hg:(0:Int)≤260*(if great=true then 1 else 0)∧(260:Int)*(if great=true then 1 else 0)≤260:=by split<;>lia
  generalize (260:Int)*(if great=true then 1 else 0)=g at gm hg
  generalize (if great=true then 1 else 0:Int)=one at gm gi
  obtain⟨z,hz,ha⟩:=kO (xs:=[PyData.int (1+n1 % 8),.int (1+n2 % 40),.int (40+g)]) (i:=n3 % 3) ↥0 ↥7
  obtain⟨most,rfl,hm0,hm1⟩:∃r,z=.int r∧0≤r∧r≤400:=by
    simp only [List.mem_cons,List.not_mem_nil,or_false] at hz
    rcases hz with rfl | rfl | rfl<;>exact⟨_,rfl,by lia,by lia⟩
  obtain⟨d4,T,S,t4,hd4,hT,hl⟩:=xo ok hd3 hm0 hm1
  obtain⟨d5,T',S',t5,hd5,hT',hl'⟩:=sN ok hd4 hT ↥0
  refine⟨d5,T',S',?_,hd5,hT',hl'⟩
  simp? [mF,yT,t1,t2,t3,aO,gi,gm,ha,t4,t5]
theorem mS(a b:Int)(hb:Bt 4000 b):ci [.d (.int a),.d (.int b)]=some (.d (.int (Int.gcd a b)),[.d (.int a),.d (.int b)]):=by
  have tst:∀x y:Int,bN [some (.d (.int x)),some (.d (.int y))]=some (!(y==0),[some (.d (.int x)),some (.d (.int y))]):=fun x y=>by simp? [bN]
  obtain⟨e0,e',h1,⟨x,y,he,hg,hy⟩,h3⟩:=dH (ft:=bN) (f:=cv) (fun e=>∃x y,e=[some (.d (.int x)),some (.d (.int y))]∧Int.gcd x y=Int.gcd a b∧Bt 4000 y) (qR 1) (fun e ⟨x,y,he,hg,hy⟩=>by
    subst he
    rw [tst]
    by_cases c:y=0
    · subst c;exact .inl ⟨_,rfl,trivial⟩
    · refine .inr ⟨_,[some (.d (.int y)),some (.d (.int (x.fmod y)))],by rw [beq_false_of_ne c];rfl,by simp? [cv,zc c],⟨y,x.fmod y,rfl,by rw [tP,hg],?_⟩,?_⟩
      · have:=ia x c
        exact Bt.of_le hy ↥0
      · have:=ia x c
        simpa [qR] using this) (2 ^ 4200) _ ⟨a,b,rfl,rfl,hb⟩ (je (m:=4000) (by simpa [qR,Bt] using hb) ⋯)
  subst he
  rw [tst] at h3
  have h4:=Prod.mk.inj (Option.some.inj h3)
  have hy0:y=0:=by simpa using h4.1
  subst hy0
  have h5:=h4.2
  subst h5
  have hs:dG (2 ^ 4200) bN cv [some (.d (.int a)),some (.d (.int b))]=some (.nx [some (.d (.int x)),some (.d (.int 0))]):=h1
  have hg':(x.natAbs:Int)=(Int.gcd a b:Int):=by rw [←hg];simp
  simp only [ci,iK,fP,jQ,aG,kg,br,eF,aV,cZ,ku,nW,qe,aQ,aq,pW,af,vC,cO,aj,aa,bg,aM,bM,lb,wa,lg,yy,js,uI,nO,sU,fK,eJ,ck,bv,tX,et,gH,kW,dz,bA,p9,sR,bI,aB,ah,bz,cc,aN,bi,sj,dI,dm,cU,ic,io,ik,ig,ie,fx,fw,fy,dN,fj,nu,fm,jG,nA,jJ,il,jH,jI,fD,fB,dO,fF,jp,i4,dg,jx,jy,m5,dM,dJ,ej,ii,List.replicate, -List.map_nil, -List.map_cons, -List.nil_append, -List.cons_append, -Option.bind_some, -Option.map_some, -getElem?_pos, -List.append_nil,ni,nh,m8,m7,m_,ng,m9,nj]
  simp? [hs,hg']
theorem pU(t b:Int)(hb:0 < b)(h:Bt 4000 b):eA [.d (.int t),.d (.int b)]=some (.d (dF (lowM t b)),[.d (.int t),.d (.int b)]):=by
  have g0:=rW (t:=t) (b:=b) ↥0
  have g1:(Int.gcd t b:Int)≠0:=by lia
  have g8:Bt 8000 (Int.gcd t b:Int):=(zg (t:=t) ↥0 h).mono ⋯
  have e:lowM t b=(t.fdiv (Int.gcd t b:Int),b.fdiv (Int.gcd t b:Int)):=by unfold lowM;rw [if_neg ↥0]
  have nb:¬b < 0:=by lia
  rw [e]
  simp? [eA,tf,mS t b h,wF g1 g8,nb,dF]
theorem xt{a b:Fr}{n:Nat}(a2:0 < a.2)(b2:0 < b.2)(ha1:Bt n a.1)(ha:Bt n a.2)(hb1:Bt n b.1)(hb:Bt n b.2)(hn:n≤1900):gj [.d (dF a),.d (dF b)]=some (.d (dF (tm a b)),[.d (dF a),.d (dF b)]):=by
  have g1:∀e:En,bQ e (.d (.int a.1)) (.d (.int b.1))=some (.d (.int (a.1*b.1))):=fun e=>bT (iE (ha1.mono ↥0) (hb1.mono ↥0))
  have g2:∀e:En,bQ e (.d (.int a.2)) (.d (.int b.2))=some (.d (.int (a.2*b.2))):=fun e=>bT (iE (ha.mono ↥0) (hb.mono ↥0))
  have tl:=pU (a.1*b.1) (a.2*b.2) (Int.mul_pos a2 b2) ((ha.mul hb).mono ↥0)
  unfold tm
  unfold dF at*
  simp? [gj,wy,g1,g2,tl]
theorem xm{a b:Fr}{n:Nat}(a2:0 < a.2)(b2:0 < b.2)(ha1:Bt n a.1)(ha:Bt n a.2)(hb1:Bt n b.1)(hb:Bt n b.2)(hn:n≤1900):ip [.d (dF a),.d (dF b)]=some (.d (dF (tm a b)),[.d (dF a),.d (dF b)]):=by
  have g1:∀e:En,bQ e (.d (.int a.1)) (.d (.int b.1))=some (.d (.int (a.1*b.1))):=fun e=>bT (iE (ha1.mono ↥0) (hb1.mono ↥0))
  have g2:∀e:En,bQ e (.d (.int a.2)) (.d (.int b.2))=some (.d (.int (a.2*b.2))):=fun e=>bT (iE (ha.mono ↥0) (hb.mono ↥0))
  have tl:=xq (a.1*b.1) (a.2*b.2) (Int.mul_pos a2 b2) ((ha.mul hb).mono ↥0)
  unfold tm
  unfold dF at*
  simp? [ip,ww,g1,g2,tl]
theorem Fe{a b:Fr}{n:Nat}(a2:0 < a.2)(b2:0 < b.2)(ha1:Bt n a.1)(ha:Bt n a.2)(hb1:Bt n b.1)(hb:Bt n b.2)(hn:n≤1900):oZ [.d (dF a),.d (dF b)]=some (.d (dF (pl a b)),[.d (dF a),.d (dF b)]):=by
  have g1:∀e:En,bQ e (.d (.int a.1)) (.d (.int b.2))=some (.d (.int (a.1*b.2))):=fun e=>bT (iE (ha1.mono ↥0) (hb.mono ↥0))
  have g3:∀e:En,bQ e (.d (.int b.1)) (.d (.int a.2))=some (.d (.int (b.1*a.2))):=fun e=>bT (iE (hb1.mono ↥0) (ha.mono ↥0))
  have g2:∀e:En,bQ e (.d (.int a.2)) (.d (.int b.2))=some (.d (.int (a.2*b.2))):=fun e=>bT (iE (ha.mono ↥0) (hb.mono ↥0))
  have tl:=pU (a.1*b.2+b.1*a.2) (a.2*b.2) (Int.mul_pos a2 b2) ((ha.mul hb).mono ↥0)
  unfold pl
  unfold dF at*
  simp? [oZ,yU,g1,g2,g3,tl]
theorem E6{a b:Fr}{n:Nat}(a2:0 < a.2)(b2:0 < b.2)(ha1:Bt n a.1)(ha:Bt n a.2)(hb1:Bt n b.1)(hb:Bt n b.2)(hn:n≤1900):oW [.d (dF a),.d (dF b)]=some (.d (dF (pl a b)),[.d (dF a),.d (dF b)]):=by
  have g1:∀e:En,bQ e (.d (.int a.1)) (.d (.int b.2))=some (.d (.int (a.1*b.2))):=fun e=>bT (iE (ha1.mono ↥0) (hb.mono ↥0))
  have g3:∀e:En,bQ e (.d (.int b.1)) (.d (.int a.2))=some (.d (.int (b.1*a.2))):=fun e=>bT (iE (hb1.mono ↥0) (ha.mono ↥0))
  have g2:∀e:En,bQ e (.d (.int a.2)) (.d (.int b.2))=some (.d (.int (a.2*b.2))):=fun e=>bT (iE (ha.mono ↥0) (hb.mono ↥0))
  have tl:=xq (a.1*b.2+b.1*a.2) (a.2*b.2) (Int.mul_pos a2 b2) ((ha.mul hb).mono ↥0)
  unfold pl
  unfold dF at*
  simp? [oW,yP,g1,g2,g3,tl]
theorem uD{n:Int}{t:mr}(o:t.Ok n):gS [.d (.tuple [.int t.top,.int t.bot])]=some (.d (dF (uQ t false)),[.d (.tuple [.int t.top,.int t.bot])]):=by
  have b0:=o.b0;have b1:=o.b1
  have tl:=pU (t.bot - t.top) t.bot ↥0 (Bt.mono (m:=7) (by unfold Bt;lia) ⋯)
  rw [zB ↥0 o.cop] at tl
  simp? [gS,oD,tl,uQ]
theorem Cu{t:mr}:oX [.d (.tuple [.int t.top,.int t.bot])]=some (.d (dF (uQ t false)),[.d (.tuple [.int t.top,.int t.bot])]):=by
  simp? [oX,yQ,uQ,dF]
theorem qB{n:Int}{c0 a0:Option Sv}:∀(ts:List mr) (bs:List Bool) (M:Int) (k:Nat) (a:Fr) (v3 v4:Option Sv),(∀t∈ts,t.Ok n)→bs.length=ts.length→0 < M→Bt k M→k+7*ts.length≤120→uP M a→
    ∃w3 w4,iz [] (bI (aB (ah 3) (aB (ah 4) bz))) cL (jt (ts.map fun t=>.tuple [.int t.top,.int t.bot]) (bs.map .bool)) [c0,a0,some (.d (dF a)),v3,v4]=some (.nx [c0,a0,some (.d (dF (pX a ts bs))),w3,w4])
  | [],[],M,k,a,v3,v4,_,_,_,_,_,_=>⟨v3,v4,rfl⟩
  | [],_::_,_,_,_,_,_,_,hl,_,_,_,_=>by simp at hl
  | _::_,[],_,_,_,_,_,_,hl,_,_,_,_=>by simp at hl
  | t::ts,b::bs,M,k,a,v3,v4,ho,hl,hM,hb,hk,h=>by
    have o:=ho t ↥1
    have b0:=o.b0;have b1:=o.b1
    have rc:=uY o b
    simp only [List.length_cons] at hk
    obtain⟨c1,c2⟩:=h.bt hb hM
    obtain⟨c3,c4⟩:=rc.bt (n:=7) (by unfold Bt;lia) ↥0
    have tt:=xt (a:=a) (b:=uQ t b) (n:=300) h.pos rc.pos (c1.mono ↥0) (c2.mono ↥0) (c3.mono ↥0) (c4.mono ↥0) ↥0
    have to:=uD o
    obtain⟨w3,w4,ih⟩:=qB (c0:=c0) (a0:=a0) ts bs (M*t.bot) (k+7) (tm a (uQ t b)) (some (.d (.tuple [.int t.top,.int t.bot]))) (some (.d (.bool b))) (fun x hx=>ho x (by simp [hx])) (by simpa using hl) (Int.mul_pos hM ↥0) (hb.mul (show Bt 7 t.bot by unfold Bt;lia)) ↥0 (h.tm rc)
    refine⟨w3,w4,?_⟩
    have hg:bI (aB (ah 3) (aB (ah 4) bz)) (.tuple [.tuple [.int t.top,.int t.bot],.bool b]) [c0,a0,some (.d (dF a)),v3,v4]=some [c0,a0,some (.d (dF a)),some (.d (.tuple [.int t.top,.int t.bot])),some (.d (.bool b))]:=rfl
    have hbd:cL [c0,a0,some (.d (dF a)),some (.d (.tuple [.int t.top,.int t.bot])),some (.d (.bool b))]=some (.nx [c0,a0,some (.d (dF (tm a (uQ t b)))),some (.d (.tuple [.int t.top,.int t.bot])),some (.d (.bool b))]):=by
      cases b with
      | true=>
        have e:dF (uQ t true)=.tuple [.int t.top,.int t.bot]:=rfl
        rw [e] at tt
        simp? [cL,tt]
      | false=>simp? [cL,to,tt]
    simp only [List.map_cons,jt,iz,hg,Option.bind_some,hbd]
    rw [if_pos bh]
    exact ih
theorem pA:uP 1 ((1,1):Fr):=⟨by decide,by decide,by decide,Int.dvd_refl _⟩
theorem j0{W:aZ}(ok:W.Ok){bs:List Bool}(hl:bs.length=W.ties.length):bK [.d (aI W),.d (.tuple (bs.map .bool))]=some (.d (dF (pX (1,1) W.ties bs)),[.d (aI W),.d (.tuple (bs.map .bool))]):=by
  have wl:=ok.len
  have g1':∀e,bD e (.d (aI W)) (.d (.int 1))=some (.d (.tuple (W.ties.map be))):=fun e=>by rw [cG,fm,dg];rfl
  have hc:∀e:En,e[0]?=some (some (.d (aI W)))→bG [] 1 iC (ah 0) bE eP e=some (.l (W.ties.map fun t=>.tuple [.int t.top,.int t.bot]),e):=fun e he=>by
    have hi:iC e=some (W.ties.map be,[],e):=mz (by simp [aq,af,he,vC,g1'])
    obtain⟨t',h3⟩:=ce (cs:=[]) (ft:=bE) (fe:=eP) (b:=fun _=>true) (y:=fun d=>match d with | .tuple [_,_,c,_]=>c | _=>.none) (W.ties.map be) none [] ↥4 (fun x hx _=>by
      obtain⟨t,ht,rfl⟩:=LI hx
      simp? [eP,be]) ↥7
    rw [List.filter_eq_self.mpr ↥4,List.map_map] at h3
    exact kr hi h3
  obtain⟨w3,w4,hf⟩:=qB (c0:=some (.d (.list (W.ties.map fun t=>.tuple [.int t.top,.int t.bot])))) (a0:=some (.d (.tuple (bs.map .bool)))) W.ties bs 1 1 (1,1) none none (fun t ht=>ok.ties t ht) hl ⋯ (by unfold Bt;decide) ↥0 pA
  have hs:∀Wl,cN Wl iB (bI (aB (ah 3) (aB (ah 4) bz))) cL [some (.d (.list (W.ties.map fun t=>.tuple [.int t.top,.int t.bot]))),some (.d (.tuple (bs.map .bool))),some (.d (.tuple [.int 1,.int 1])),none,none]=some (.nx [some (.d (.list (W.ties.map fun t=>.tuple [.int t.top,.int t.bot]))),some (.d (.tuple (bs.map .bool))),some (.d (dF (pX (1,1) W.ties bs))),w3,w4]):=fun Wl=>by
    rw [cQ (show iB _=some (jt (W.ties.map fun t=>.tuple [.int t.top,.int t.bot]) (bs.map .bool),[],[some (.d (.list (W.ties.map fun t=>.tuple [.int t.top,.int t.bot]))),some (.d (.tuple (bs.map .bool))),some (.d (.tuple [.int 1,.int 1])),none,none]) from rfl)]
    exact hf
  have hb:fJ [.d (.list (W.ties.map fun t=>.tuple [.int t.top,.int t.bot])),.d (.tuple (bs.map .bool))]=some (.d (dF (pX (1,1) W.ties bs)),[.d (.list (W.ties.map fun t=>.tuple [.int t.top,.int t.bot])),.d (.tuple (bs.map .bool))]):=by
    generalize dF (pX (1,1) W.ties bs)=q at hs ⊢
    generalize W.ties.map (fun t=>PyData.tuple [.int t.top,.int t.bot])=L at hs ⊢
    simp? [fJ,mY,hs]
  have hc':=hc [some (.d (aI W)),some (.d (.tuple (bs.map .bool)))] rfl
  generalize dF (pX (1,1) W.ties bs)=q at hb ⊢
  generalize W.ties.map (fun t=>PyData.tuple [.int t.top,.int t.bot])=L at hb hc'
  simp? [bK,mZ,hc',hb]
theorem kB{n:Int}{c0 a0:Option Sv}:∀(ts:List mr) (bs:List Bool) (M:Int) (k:Nat) (a:Fr) (v3 v4:Option Sv),(∀t∈ts,t.Ok n)→bs.length=ts.length→0 < M→Bt k M→k+7*ts.length≤120→uP M a→
    ∃w3 w4,iz [] (bI (aB (ah 3) (aB (ah 4) bz))) cJ (jt (ts.map be) (bs.map .bool)) [c0,a0,some (.d (dF a)),v3,v4]=some (.nx [c0,a0,some (.d (dF (pX a ts bs))),w3,w4])
  | [],[],M,k,a,v3,v4,_,_,_,_,_,_=>⟨v3,v4,rfl⟩
  | [],_::_,_,_,_,_,_,_,hl,_,_,_,_=>by simp at hl
  | _::_,[],_,_,_,_,_,_,hl,_,_,_,_=>by simp at hl
  | t::ts,b::bs,M,k,a,v3,v4,ho,hl,hM,hb,hk,h=>by
    have o:=ho t ↥1
    have b0:=o.b0;have b1:=o.b1
    have rc:=uY o b
    simp only [List.length_cons] at hk
    obtain⟨c1,c2⟩:=h.bt hb hM
    obtain⟨c3,c4⟩:=rc.bt (n:=7) (by unfold Bt;lia) ↥0
    have tt:=xm (a:=a) (b:=uQ t b) (n:=300) h.pos rc.pos (c1.mono ↥0) (c2.mono ↥0) (c3.mono ↥0) (c4.mono ↥0) ↥0
    have to:=Cu (t:=t)
    obtain⟨w3,w4,ih⟩:=kB (c0:=c0) (a0:=a0) ts bs (M*t.bot) (k+7) (tm a (uQ t b)) (some (.d (be t))) (some (.d (.bool b))) (fun x hx=>ho x (by simp [hx])) (by simpa using hl) (Int.mul_pos hM ↥0) (hb.mul (show Bt 7 t.bot by unfold Bt;lia)) ↥0 (h.tm rc)
    refine⟨w3,w4,?_⟩
    have hg:bI (aB (ah 3) (aB (ah 4) bz)) (.tuple [be t,.bool b]) [c0,a0,some (.d (dF a)),v3,v4]=some [c0,a0,some (.d (dF a)),some (.d (be t)),some (.d (.bool b))]:=rfl
    have hbd:cJ [c0,a0,some (.d (dF a)),some (.d (be t)),some (.d (.bool b))]=some (.nx [c0,a0,some (.d (dF (tm a (uQ t b)))),some (.d (be t)),some (.d (.bool b))]):=by
      cases b with
      | true=>
        have e:dF (uQ t true)=.tuple [.int t.top,.int t.bot]:=rfl
        have gi:∀e:En,g1 mw e [.d (.bool true)]=some (.d (.int 1)):=fun e=>rfl
        rw [e] at tt
        simp? [cJ,to,tt,gi,be]
      | false=>
        have gi:∀e:En,g1 mw e [.d (.bool false)]=some (.d (.int 0)):=fun e=>rfl
        simp? [cJ,to,tt,gi,be]
    simp only [List.map_cons,jt,iz,hg,Option.bind_some,hbd]
    rw [if_pos bh]
    exact ih
theorem nM{W:aZ}(ok:W.Ok){bs:List Bool}(hl:bs.length=W.ties.length):cq [.d (aI W),.d (.tuple (bs.map .bool))]=some (.d (dF (pX (1,1) W.ties bs)),[.d (aI W),.d (.tuple (bs.map .bool))]):=by
  have wl:=ok.len
  have g1':∀e,bD e (.d (aI W)) (.d (.int 1))=some (.d (.tuple (W.ties.map be))):=fun e=>by rw [cG,fm,dg];rfl
  obtain⟨w3,w4,hf⟩:=kB (c0:=some (.d (aI W))) (a0:=some (.d (.tuple (bs.map .bool)))) W.ties bs 1 1 (1,1) none none (fun t ht=>ok.ties t ht) hl ⋯ (by unfold Bt;decide) ↥0 pA
  have hs:∀Wl,cN Wl iA (bI (aB (ah 3) (aB (ah 4) bz))) cJ [some (.d (aI W)),some (.d (.tuple (bs.map .bool))),some (.d (.tuple [.int 1,.int 1])),none,none]=some (.nx [some (.d (aI W)),some (.d (.tuple (bs.map .bool))),some (.d (dF (pX (1,1) W.ties bs))),w3,w4]):=fun Wl=>by
    rw [cQ (items:=jt (W.ties.map be) (bs.map .bool)) (e1:=[some (.d (aI W)),some (.d (.tuple (bs.map .bool))),some (.d (.tuple [.int 1,.int 1])),none,none]) (by simp? [iA,tR,vM,g1'])]
    exact hf
  generalize dF (pX (1,1) W.ties bs)=q at hs ⊢
  simp? [cq,mX,hs]
def dB(bs:List Bool):PyData:=.tuple (bs.map .bool)
theorem Ah{n:Nat}(h:n≤10):2 ^ n≤1024:=Nat.le_trans (Nat.pow_le_pow_right ⋯ h) ⋯
theorem rT{e:En}{bs:List Bool}{b:Bool}(h:bs.length≤1000):bL e (.d (dB bs)) (.d (.tuple [.bool b]))=some (.d (dB (bs++[b]))):=by
  unfold dB
  rw [mv ↥7]
  simp
theorem qh{n:Nat}(hn:n≤10):cM [.d (.int (n:Int))]=some (.l ((bC n).map dB),[.d (.int (n:Int))]):=by
  have step:∀(k:Nat) (v0 v2:Option Sv),k≤9→cE [v0,some (.l ((bC k).map dB)),v2]=some (.nx [v0,some (.l ((bC (k+1)).map dB)),v2]):=by
    intro k v0 v2 hk
    obtain⟨pl,pr⟩:=mM k
    have key:∀(rs:List (List Bool)) (t:En) (acc:List PyData),t.length=2→(∀r∈rs,r.length≤1000)→acc.length+2*rs.length≤1000000→∃t',jE (ah 0) bE du (ah 1) bE cH (rs.map dB) t acc=some (acc++(rs.flatMap fun r=>[r++[true],r++[false]]).map dB,t'):=by
      intro rs
      induction rs with
      | nil=>intro t acc _ _ _;exact⟨t,by simp [jE]⟩
      | cons r rs ih=>
        intro t acc ht hr hl
        obtain⟨a1,a2,rfl⟩:∃a1 a2,t=[a1,a2]:=by
          match t,ht with
          | [a1,a2],_=>exact⟨a1,a2,rfl⟩
        have hrl:=hr r ↥1
        have gT:∀e,bL e (.d (dB r)) (.d (.tuple [.bool true]))=some (.d (dB (r++[true]))):=fun e=>rT hrl
        have gF:∀e,bL e (.d (dB r)) (.d (.tuple [.bool false]))=some (.d (dB (r++[false]))):=fun e=>rT hrl
        simp only [List.length_cons] at hl
        have l1:acc.length < 1000000:=by lia
        have l2:acc.length+1 < 1000000:=by lia
        obtain⟨t',h⟩:=ih [some (.d (dB r)),some (.d (.bool false))] (acc++[dB (r++[true]),dB (r++[false])]) rfl (fun x hx=>hr x (by simp [hx])) ↥7
        refine⟨t',?_⟩
        have hi:du [some (.d (dB r)),a2]=some ([.bool true,.bool false],[],[some (.d (dB r)),a2]):=rfl
        have hc:cF (ah 1) bE cH [.bool true,.bool false] [some (.d (dB r)),a2] acc=some (acc++[dB (r++[true]),dB (r++[false])],[some (.d (dB r)),some (.d (.bool false))]):=by
          simp? [cF,bE,cH,gT,gF,l1,l2]
        have hg:ah 0 (dB r) [a1,a2]=some [some (.d (dB r)),a2]:=rfl
        simp only [List.map_cons,jE,hg,Option.bind_some,bE,if_true,hi,hc]
        rw [h]
        simp
    obtain⟨t',h3⟩:=key (bC k) [none,none] [] rfl (fun r hr=>by have:=pr r hr;lia) (by have:=Ah (n:=k) ↥0;simp;lia)
    have hi:fX [v0,some (.l ((bC k).map dB)),v2]=some ((bC k).map dB,[(1,(bC k).map dB)],[v0,some (.l ((bC k).map dB)),v2]):=rfl
    have hv:mT [] 2 fX (ah 0) bE du (ah 1) bE cH [v0,some (.l ((bC k).map dB)),v2]=some (.l ((bC (k+1)).map dB),[v0,some (.l ((bC k).map dB)),v2]):=by
      unfold mT
      rw [hi]
      simp only [Option.bind_some]
      rw [if_pos ↥1,show mC [] 2 [v0,some (.l ((bC k).map dB)),v2]=[none,none] from rfl,h3]
      simp only [Option.bind_some]
      rw [if_pos (by simp [gD])]
      congr 2
      refine List.ext_getElem? fun i=>?_
      rw [bF]
      match h:([v0,some (.l ((bC k).map dB)),v2]:En)[i]? with
      | none=>rfl
      | some none=>rfl
      | some (some (.d x))=>rfl
      | some (some (.n x))=>rfl
      | some (some (.l x))=>rfl
    generalize (bC k).map dB=A at hv
    generalize (bC (k+1)).map dB=B at hv ⊢
    simp? [cE,hv]
  obtain⟨e',h1,⟨v2,rfl⟩⟩:=cI (own:=[]) (g:=ah 2) (f:=cE) (fun i e=>∃v2,e=[some (.d (.int (n:Int))),some (.l ((bC i).map dB)),v2]) (bu 0 n) 0 [some (.d (.int (n:Int))),some (.l ((bC 0).map dB)),none] (fun i x e hx ⟨v2,he⟩=>by
    subst he
    obtain⟨rfl,hi⟩:=cy hx
    rw [Nat.zero_add]
    exact⟨_,_,rfl,step i _ _ ↥0,bh,_,rfl⟩) ⟨none,rfl⟩
  rw [dD,Nat.zero_add] at h1
  have hs:∀Wl,cN Wl fY (ah 2) cE [some (.d (.int (n:Int))),some (.l [.tuple []]),none]=some (.nx [some (.d (.int (n:Int))),some (.l ((bC n).map dB)),v2]):=fun Wl=>by
    have:=cV (fs:=aa (af 0) aj) (e:=[some (.d (.int (n:Int))),some (.l [.tuple []]),none]) (e1:=[some (.d (.int (n:Int))),some (.l [.tuple []]),none]) (n:=(n:Int)) rfl ↥0 ↥0
    rw [Int.toNat_natCast] at this
    rw [cQ (show fY _=_ from this)]
    exact h1
  generalize (bC n).map dB=A at hs ⊢
  simp? [cM,kz,hs]
theorem qg{n:Nat}(hn:n≤10):dn [.d (.int (n:Int))]=some (.l ((aX n).map dB),[.d (.int (n:Int))]):=by
  have step:∀(k:Nat) (v0 v2:Option Sv),k≤9→cD [v0,some (.l ((aX k).map dB)),v2]=some (.nx [v0,some (.l ((aX (k+1)).map dB)),v2]):=by
    intro k v0 v2 hk
    obtain⟨pl,pr⟩:=iV k
    have pw:=Ah (n:=k) ↥0
    have one:∀(fe:FE) (b:Bool),(∀r:List Bool,r.length≤1000→fe [some (.d (dB r))]=some (.d (dB (r++[b])),[some (.d (dB r))]))→∃t',cF (ah 0) bE fe ((aX k).map dB) [none] []=some (((aX k).map (· ++[b])).map dB,t'):=fun fe b hfe=>by
      obtain⟨t',h3⟩:=ce (cs:=[]) (ft:=bE) (fe:=fe) (b:=fun _=>true) (y:=fun d=>match d with | .tuple ds=>.tuple (ds++[.bool b]) | _=>.none) ((aX k).map dB) none [] ↥4 (fun x hx _=>by
        obtain⟨r,hr,rfl⟩:=LI hx
        have:=hfe r (by have:=pr r hr;lia)
        rw [List.nil_append,this]
        simp [dB]) ↥7
      refine⟨[]++[t'],?_⟩
      rw [List.filter_eq_self.mpr ↥4,List.map_map,List.nil_append] at h3
      rw [List.map_map]
      have e:Function.comp (fun d:PyData=>match d with | .tuple ds=>PyData.tuple (ds++[.bool b]) | _=>.none) dB=Function.comp dB (· ++[b]):=by funext r;simp [dB]
      rw [e] at h3
      exact h3
    obtain⟨t1,h1⟩:=one dr true (fun r hr=>by simp? [dr,rT hr])
    obtain⟨t2,h2⟩:=one dt false (fun r hr=>by simp? [dt,rT hr])
    have hv1:bG [] 1 jq (ah 0) bE dr [v0,some (.l ((aX k).map dB)),v2]=some (.l (((aX k).map (· ++[true])).map dB),[v0,some (.l ((aX k).map dB)),v2]):=kr (own:=[(1,(aX k).map dB)]) rfl h1
    have hv2:bG [] 1 jr (ah 0) bE dt [v0,some (.l ((aX k).map dB)),v2]=some (.l (((aX k).map (· ++[false])).map dB),[v0,some (.l ((aX k).map dB)),v2]):=kr (own:=[(1,(aX k).map dB)]) rfl h2
    have ga:∀e,bL e (.l (((aX k).map (· ++[true])).map dB)) (.l (((aX k).map (· ++[false])).map dB))=some (.l ((aX (k+1)).map dB)):=fun e=>by
      rw [Bo ↥7]
      simp [aX]
    generalize ((aX k).map (· ++[true])).map dB=A at hv1 ga
    generalize ((aX k).map (· ++[false])).map dB=B at hv2 ga
    generalize (aX (k+1)).map dB=C at ga ⊢
    generalize (aX k).map dB=D at hv1 hv2
    simp? [cD,hv1,hv2,ga]
  obtain⟨e',h1,⟨v2,rfl⟩⟩:=cI (own:=[]) (g:=ah 2) (f:=cD) (fun i e=>∃v2,e=[some (.d (.int (n:Int))),some (.l ((aX i).map dB)),v2]) (bu 0 n) 0 [some (.d (.int (n:Int))),some (.l ((aX 0).map dB)),none] (fun i x e hx ⟨v2,he⟩=>by
    subst he
    obtain⟨rfl,hi⟩:=cy hx
    rw [Nat.zero_add]
    exact⟨_,_,rfl,step i _ _ ↥0,bh,_,rfl⟩) ⟨none,rfl⟩
  rw [dD,Nat.zero_add] at h1
  have hs:∀Wl,cN Wl fV (ah 2) cD [some (.d (.int (n:Int))),some (.l [.tuple []]),none]=some (.nx [some (.d (.int (n:Int))),some (.l ((aX n).map dB)),v2]):=fun Wl=>by
    have:=cV (fs:=aa (af 0) aj) (e:=[some (.d (.int (n:Int))),some (.l [.tuple []]),none]) (e1:=[some (.d (.int (n:Int))),some (.l [.tuple []]),none]) (n:=(n:Int)) rfl ↥0 ↥0
    rw [Int.toNat_natCast] at this
    rw [cQ (show fV _=_ from this)]
    exact h1
  generalize (aX n).map dB=A at hs ⊢
  simp? [dn,ky,hs]
def uE(T:List Nd)(ans:List Bool)(r:List (Int × Bool))(a:Int)(v4 v5 v6:Option Sv):En:=[some (.d (.tuple (T.map h_))),some (.d (.tuple (ans.map .bool))),some (.l (r.map dR)),some (.d (.int a)),v4,v5,v6]
theorem vP{W:aZ}(ok:W.Ok){T:List Nd}{S:Nat→Std}{ans:List Bool}(hT:iy W T S)(ha:ans.length=W.ties.length):gQ [.d (.tuple (T.map h_)),.d (.tuple (ans.map .bool))]=some (.d (.tuple ((rn T ans 17 (rt T)).map dR)),[.d (.tuple (T.map h_)),.d (.tuple (ans.map .bool))]):=by
  have tst:∀r a v4 v5 v6,d9 (uE T ans r a v4 v5 v6)=some (decide (0≤a),uE T ans r a v4 v5 v6):=fun r a v4 v5 v6=>by
    simp? [uE,d9]
  obtain⟨e0,e',hw,⟨r,a,v4,v5,v6,rfl,hr⟩,hf⟩:=dH (ft:=d9) (f:=gc) (fun e=>∃r a v4 v5 v6,e=uE T ans r a v4 v5 v6∧iH W T S ans r a) (fun e=>17 - eI 2 e) (fun e ⟨r,a,v4,v5,v6,he,hr⟩=>by
    subst he
    by_cases c:0≤a
    · obtain⟨h1,h2,h3,h4⟩:=hr.step ok hT c
      have l1:∀r a v4 v5 v6,eI 2 (uE T ans r a v4 v5 v6)=r.length:=fun r a v4 v5 v6=>by simp [uE,eI]
      refine .inr ⟨uE T ans r a v4 v5 v6,uE T ans _ _ (some (.d (.int (bO T a).tie))) (some (.d (.int (bO T a).yes))) (some (.d (.int (bO T a).no))),(by rw [tst,decide_eq_true c]),?_,⟨_,_,_,_,_,rfl,h4⟩,by rw [l1,l1];simp;lia⟩
      have n1:=rK c h1
      have b1:=qi (bs:=ans) h3.1 (by rw [ha];exact h3.2)
      have rl:r.length < 1000000:=by lia
      generalize ans.getD (bO T a).tie.toNat false=b at b1 h4
      cases b<;>simp? [uE,gc,n1,h_,b1,dR,rl]
    · exact .inl ⟨_,(by rw [tst,decide_eq_false c]),trivial⟩) (2 ^ 4200) (uE T ans [] (rt T) none none none) ⟨[],rt T,none,none,none,rfl,iH.first⟩ (je (m:=20) (by simp [uE,eI]) ⋯)
  rw [tst] at hf
  have c:¬0≤a:=by
    intro c
    rw [decide_eq_true c] at hf
    simp at hf
  rw [decide_eq_false c] at hf
  simp at hf
  subst hf
  have hd:=hr.done ↥0
  rw [←hd]
  have hw':dG (2 ^ 4200) d9 gc (uE T ans [] (rt T) none none none)=some (.nx (uE T ans r a v4 v5 v6)):=hw
  have hrt:((-1:Int)+if 0 < T.length then 1 else 0)=rt T:=by
    unfold rt
    by_cases z:T.length=0
    · simp [z]
    · have:0 < T.length:=by lia
      simp [z,this]
  unfold uE at hw'
  simp only [List.map_nil] at hw'
  simp? [gQ,oC,hrt,hw']
def wb(W:aZ)(T:List Nd)(ans:List Bool)(r:List (Int × Bool))(a:Int)(v5 v6 v7:Option Sv):En:=[some (.d (aI W)),some (.d (.tuple (T.map h_))),some (.d (.tuple (ans.map .bool))),some (.l (r.map dR)),some (.d (.int a)),v5,v6,v7]
theorem vQ{W:aZ}(ok:W.Ok){T:List Nd}{S:Nat→Std}{ans:List Bool}(hT:iy W T S)(ha:ans.length=W.ties.length):dA [.d (aI W),.d (.tuple (T.map h_)),.d (.tuple (ans.map .bool))]=some (.d (.tuple ((rn T ans 17 (rt T)).map dR)),[.d (aI W),.d (.tuple (T.map h_)),.d (.tuple (ans.map .bool))])∧Sz 1000 6 (.tuple ((rn T ans 17 (rt T)).map dR)):=by
  have tst:∀r a v5 v6 v7,d_ (wb W T ans r a v5 v6 v7)=some (!(a== -1),wb W T ans r a v5 v6 v7):=fun r a v5 v6 v7=>by
    simp? [wb,d_]
  obtain⟨e0,e',hw,⟨r,a,v5,v6,v7,rfl,hr⟩,hf⟩:=dH (ft:=d_) (f:=gf) (fun e=>∃r a v5 v6 v7,e=wb W T ans r a v5 v6 v7∧iH W T S ans r a) (fun e=>17 - eI 3 e) (fun e ⟨r,a,v5,v6,v7,he,hr⟩=>by
    subst he
    by_cases z:a= -1
    · exact .inl ⟨wb W T ans r a v5 v6 v7,(by rw [tst];simp [z]),trivial⟩
    · have c:0≤a:=by rcases hr.at' with y | y<;>lia
      obtain⟨h1,h2,h3,h4⟩:=hr.step ok hT c
      have l1:∀r a v5 v6 v7,eI 3 (wb W T ans r a v5 v6 v7)=r.length:=fun r a v5 v6 v7=>by simp [wb,eI]
      refine .inr ⟨wb W T ans r a v5 v6 v7,wb W T ans _ _ (some (.d (.int (bO T a).tie))) (some (.d (.int (bO T a).yes))) (some (.d (.int (bO T a).no))),(by rw [tst];simp [z]),?_,⟨_,_,_,_,_,rfl,h4⟩,by rw [l1,l1];simp;lia⟩
      have n1:=rK c h1
      have b1:=qi (bs:=ans) h3.1 (by rw [ha];exact h3.2)
      have rl:r.length < 1000000:=by lia
      generalize ans.getD (bO T a).tie.toNat false=b at b1 h4
      cases b<;>simp? [wb,gf,n1,h_,b1,dR,rl]) (2 ^ 4200) (wb W T ans [] (rt T) none none none) ⟨[],rt T,none,none,none,rfl,iH.first⟩ (je (m:=20) (by simp [wb,eI]) ⋯)
  rw [tst] at hf
  have c:a= -1:=by
    by_cases c:a= -1
    · exact c
    · simp [c] at hf
  simp [c] at hf
  subst hf
  have hd:=hr.done ↥0
  rw [←hd]
  refine⟨?_,Sz.run ok hr.len hr.inw⟩
  have hw':dG (2 ^ 4200) d_ gf (wb W T ans [] (rt T) none none none)=some (.nx (wb W T ans r a v5 v6 v7)):=by rw [c];exact hw
  unfold wb rt at hw'
  simp only [List.map_nil] at hw'
  by_cases z:T.length=0
  · simp only [if_pos z] at hw'
    simp? [dA,kP,z,hw']
  · have z2:0 < T.length:=by lia
    simp only [if_neg z] at hw'
    simp? [dA,kP,z2,hw']
def aE(ds:List Int)(many:Int)(bs:List Bool)(num:Int)(v4:Option Sv):En:=[some (.l (ds.map .int)),some (.d (.int many)),some (.l (bs.map .bool)),some (.d (.int num)),v4]
theorem rg{ds:List Int}{many:Int}(hd:fQ ds)(m0:0≤many)(m1:many≤1000):∃(ds':List Int) (bs:List Bool),gq [.l (ds.map .int),.d (.int many)]=some (.d (.tuple (bs.map .bool)),[.l (ds'.map .int),.d (.int many)])∧fQ ds'∧(bs.length:Int)=many:=by
  obtain⟨e2,h1,⟨d1,bs,num,v4,he,hd1,hl⟩⟩:=cI (own:=[]) (g:=ah 4) (f:=eY) (fun i e=>∃(ds:List Int) (bs:List Bool) (num:Int) (v4:Option Sv),e=aE ds many bs num v4∧fQ ds∧bs.length=i) (bu 0 many.toNat) 0 (aE ds many [] 0 none) (fun i x e hx ⟨ds,bs,num,v4,he,hd,hl⟩=>by
    subst he
    obtain⟨rfl,hi⟩:=cy hx
    generalize hq:(0+(i:Int))=q at*
    have g16:∀e:En,ba e (.d (.int q)) (.d (.int 16))=some (.d (.int (q % 16))):=fun e=>aO ⋯
    obtain⟨m,hm0,hm1,hs⟩:=E1 (q:=q % 16) ↥0 ↥0
    have gd:∀(e:En) (n:Int),eh e (.d (.int n)) (.d (.int m))=some (.d (.int (n / m))):=fun e n=>eM hm0 (kR hm0 hm1)
    have g2:∀(e:En) (n:Int),ba e (.d (.int n)) (.d (.int 2))=some (.d (.int (n % 2))):=fun e n=>aO ⋯
    have bl:bs.length < 1000000:=by lia
    obtain⟨n,d1,t1,n0,n1,hd1⟩:=hV hd
    by_cases c:q % 16=0
    · refine⟨aE ds many bs num (some (.d (.int q))),aE d1 many (bs++[n / m % 2==1]) n (some (.d (.int q))),rfl,?_,bh,_,_,_,_,rfl,hd1,by simp;lia⟩
      rw [c] at g16 hs
      simp? [aE,eY,g16,t1,hs,gd,g2,bl]
    · refine⟨aE ds many bs num (some (.d (.int q))),aE ds many (bs++[num / m % 2==1]) num (some (.d (.int q))),rfl,?_,bh,_,_,_,_,rfl,hd,by simp;lia⟩
      simp? [aE,eY,g16,c,hs,gd,g2,bl]) ⟨ds,[],0,none,rfl,hd,rfl⟩
  subst he
  rw [dD] at hl
  refine⟨d1,bs,?_,hd1,by lia⟩
  have hf:∀Wl,cN Wl jL (ah 4) eY (aE ds many [] 0 none)=some (.nx (aE d1 many bs num v4)):=fun Wl=>by
    rw [cQ (show jL (aE ds many [] 0 none)=some (bu 0 many.toNat,[],aE ds many [] 0 none) from cV (n:=many) (by simp? [aE]) ↥0 ↥0)]
    exact h1
  unfold aE at hf
  simp only [List.map_nil] at hf
  simp? [gq,qj,hf]
theorem AF{W:aZ}(ok:W.Ok){T:List Nd}{S:Nat→Std}(hT:iy W T S){ans:List Bool}:∀(n:Nat) (r:List (Int × Bool)) (a:Int),16 - r.length=n→iH W T S ans r a→(rn T ans 17 (rt T)).length≤16∧∀p∈rn T ans 17 (rt T),lh W p.1
  | n,r,a,hn,h=>by
    by_cases c:0≤a
    · obtain⟨_,h2,_,h4⟩:=h.step ok hT c
      cases n with
      | zero=>lia
      | succ n=>exact AF ok hT n _ _ ↥7 h4
    · rw [←h.done ↥0]
      exact⟨h.len,h.inw⟩
theorem w_{W:aZ}(ok:W.Ok){T:List Nd}{S:Nat→Std}(hT:iy W T S)(ans:List Bool):(rn T ans 17 (rt T)).length≤16∧∀p∈rn T ans 17 (rt T),lh W p.1:=AF ok hT _ [] (rt T) rfl iH.first
def oR(r:List (Int × Bool)):List Int:=(r.filter (·.2)).map (·.1)
def kw(W:aZ)(r:List (Int × Bool)):Int:=((oR r).map fun k=>(W.tie k).worth).sum
theorem wO{r:List (Int × Bool)}{k:Int}(h:k∈oR r):∃p∈r,p.1=k:=by
  unfold oR at h
  obtain⟨p,hp,e⟩:=LI h
  exact⟨p,(List.mem_filter.mp hp).1,e⟩
theorem wN{r:List (Int × Bool)}:(oR r).length≤r.length:=by
  unfold oR
  rw [List.length_map]
  exact List.length_filter_le _ _
theorem vN{W:aZ}(ok:W.Ok):∀(ks:List Int),(∀k∈ks,lh W k)→0≤(ks.map fun k=>(W.tie k).worth).sum∧(ks.map fun k=>(W.tie k).worth).sum≤1000*(ks.length:Int)
  | [],_=>by simp
  | k::ks,h=>by
    obtain⟨a,b⟩:=vN ok ks fun k hk=>h k (by simp [hk])
    have o:=(h k ↥1).ok ok
    have:=o.w0;have:=o.w1
    simp only [List.map_cons,List.sum_cons,List.length_cons]
    lia
theorem Da{W:aZ}(ok:W.Ok){r:List (Int × Bool)}(hr:r.length≤16∧∀p∈r,lh W p.1):0≤kw W r∧kw W r≤16000:=by
  obtain⟨a,b⟩:=vN ok (oR r) fun k hk=>by
    obtain⟨p,hp,rfl⟩:=wO hk
    exact hr.2 p hp
  have:=wN (r:=r)
  unfold kw
  lia
def tL:PyData→PyData
  | .tuple [a,_]=>a
  | _=>.none
def uA:PyData→PyData
  | .tuple [_,b]=>b
  | _=>.none
def qz:PyData→Bool
  | .bool b=>b
  | _=>false
def qN:PyData→Int
  | .int i=>i
  | _=>0
theorem wM{r:List (Int × Bool)}:((r.map dR).filter fun d=>qz (uA d)).map tL=(oR r).map .int:=by
  induction r with
  | nil=>rfl
  | cons p r ih=>
    obtain⟨a,b⟩:=p
    unfold oR at ih ⊢
    cases b
    · exact ih
    · exact congrArg (PyData.int a::·) ih
theorem D1{W:aZ}{r:List (Int × Bool)}:((r.map dR).filter fun d=>qz (uA d)).map (fun d=>PyData.int (W.tie (qN (tL d))).worth)=((oR r).map fun k=>(W.tie k).worth).map .int:=by
  have:((r.map dR).filter fun d=>qz (uA d)).map (fun d=>PyData.int (W.tie (qN (tL d))).worth)=(((r.map dR).filter fun d=>qz (uA d)).map tL).map fun d=>PyData.int (W.tie (qN d)).worth:=by rw [List.map_map];rfl
  rw [this,wM,List.map_map,List.map_map]
  rfl
theorem yp{r:List (Int × Bool)}(hl:r.length≤1000):iR [.d (.tuple (r.map dR))]=some (.d (.tuple ((oR r).map .int)),[.d (.tuple (r.map dR))]):=by
  obtain⟨t',e1,hf⟩:=i9 (cs:=[]) (g:=bI (aB (ah 0) (aB (ah 1) bz))) (ft:=jD) (fe:=jF) (b:=fun d=>qz (uA d)) (y:=tL) (u:=fun d=>[some (.d (tL d)),some (.d (uA d))]) 2 (r.map dR) [none,none] [] rfl (fun x hx t ht=>by
    obtain⟨p,hp,rfl⟩:=LI hx
    match t,ht with
    | [a1,a2],_=>rfl) (fun x hx=>rfl) (fun x hx=>by
    obtain⟨p,hp,rfl⟩:=LI hx
    rfl) (fun x hx _=>by
    obtain⟨p,hp,rfl⟩:=LI hx
    rfl) ↥7
  rw [List.nil_append,wM] at hf
  have hv:bG [] 2 nF (bI (aB (ah 0) (aB (ah 1) bz))) jD jF [some (.d (.tuple (r.map dR)))]=some (.l ((oR r).map .int),[some (.d (.tuple (r.map dR)))]):=kr (own:=[]) rfl hf
  generalize (oR r).map PyData.int=A at*
  generalize r.map dR=B at*
  simp? [iR,qp,hv]
theorem GB{e:En}{ws:List Int}:g1 (nD qJ) e [.l (ws.map .int)]=some (.d (.int ws.sum)):=by simp [g1,nD,fN,qJ,mD]
theorem sQ{W:aZ}{r:List (Int × Bool)}(hr:r.length≤16∧∀p∈r,lh W p.1):dc [.d (aI W),.d (.tuple (r.map dR))]=some (.d (.int (kw W r)),[.d (aI W),.d (.tuple (r.map dR))]):=by
  have g1':∀e:En,bD e (.d (aI W)) (.d (.int 1))=some (.d (.tuple (W.ties.map be))):=fun e=>by rw [cG,fm,dg];rfl
  have kl:=wN (r:=r)
  have tk:=yp (r:=r) ↥0
  obtain⟨t1,hf1⟩:=ce (cs:=[some (.d (aI W))]) (ft:=bE) (fe:=eg) (b:=fun _=>true) (y:=fun x=>.int (W.tie (qN x)).worth) ((oR r).map .int) none [] (fun x hx=>rfl) (fun x hx _=>by
    obtain⟨k,hk',rfl⟩:=LI hx
    obtain⟨p,hp,rfl⟩:=wO hk'
    have ai:=jz (W:=W) (k:=p.1) (hr.2 p hp)
    show eg [some (.d (aI W)),some (.d (.int p.1))]=some (.d (.int (W.tie p.1).worth),[some (.d (aI W)),some (.d (.int p.1))])
    unfold be at ai g1'
    generalize (W.tie p.1).worth=w at*
    generalize (W.ties.map fun t=>PyData.tuple [.int t.one,.int t.other,.tuple [.int t.top,.int t.bot],.int t.worth])=TT at*
    simp? [eg,g1',ai]) ↥7
  rw [List.nil_append,List.filter_eq_self.mpr ↥4,show(((oR r).map PyData.int).map fun x=>PyData.int (W.tie (qN x)).worth)=((oR r).map fun k=>(W.tie k).worth).map .int by rw [List.map_map,List.map_map];rfl] at hf1
  have hi:jP [some (.d (aI W)),some (.d (.tuple (r.map dR)))]=some ((oR r).map .int,[],[some (.d (aI W)),some (.d (.tuple (r.map dR)))]):=mz (by
    generalize (oR r).map PyData.int=A at*
    simp? [tk])
  have hv:=lc (cp:=[(0,"web")]) (nT:=1) (g:=ah 1) hi hf1 rfl
  have s:=fun e:En=>GB (e:=e) (ws:=(oR r).map fun k=>(W.tie k).worth)
  unfold kw
  generalize ((oR r).map fun k=>(W.tie k).worth).sum=w at*
  generalize ((oR r).map fun k=>(W.tie k).worth).map PyData.int=A at*
  simp? [dc,ly,hv,s]
theorem E5{W:aZ}{r:List (Int × Bool)}(hr:r.length≤16∧∀p∈r,lh W p.1):oV [.d (aI W),.d (.tuple (r.map dR))]=some (.d (.int (kw W r)),[.d (aI W),.d (.tuple (r.map dR))]):=by
  have g1':∀e:En,bD e (.d (aI W)) (.d (.int 1))=some (.d (.tuple (W.ties.map be))):=fun e=>by rw [cG,fm,dg];rfl
  obtain⟨t',e1,hf⟩:=i9 (cs:=[some (.d (aI W))]) (g:=bI (aB (ah 1) (aB (ah 2) bz))) (ft:=tj) (fe:=lH) (b:=fun d=>qz (uA d)) (y:=fun d=>.int (W.tie (qN (tL d))).worth) (u:=fun d=>[some (.d (tL d)),some (.d (uA d))]) 2 (r.map dR) [none,none] [] rfl (fun x hx t ht=>by
    obtain⟨p,hp,rfl⟩:=LI hx
    match t,ht with
    | [a1,a2],_=>rfl) (fun x hx=>rfl) (fun x hx=>by
    obtain⟨p,hp,rfl⟩:=LI hx
    rfl) (fun x hx _=>by
    obtain⟨p,hp,rfl⟩:=LI hx
    have ai:=jz (W:=W) (k:=p.1) (hr.2 p hp)
    show lH [some (.d (aI W)),some (.d (.int p.1)),some (.d (.bool p.2))]=some (.d (.int (W.tie p.1).worth),[some (.d (aI W)),some (.d (.int p.1)),some (.d (.bool p.2))])
    unfold be at ai g1'
    generalize (W.tie p.1).worth=w at*
    generalize (W.ties.map fun t=>PyData.tuple [.int t.one,.int t.other,.tuple [.int t.top,.int t.bot],.int t.worth])=TT at*
    simp? [lH,g1',ai]) ↥7
  rw [List.nil_append,D1] at hf
  have hv:=lc (cp:=[(0,"_law_web_here")]) (nT:=2) (fi:=tQ) (e:=[some (.d (aI W)),some (.d (.tuple (r.map dR)))]) rfl hf rfl
  have s:=fun e:En=>GB (e:=e) (ws:=(oR r).map fun k=>(W.tie k).worth)
  unfold kw
  generalize ((oR r).map fun k=>(W.tie k).worth).sum=w at*
  generalize ((oR r).map fun k=>(W.tie k).worth).map PyData.int=A at*
  simp? [oV,yO,hv,s]
theorem oj{W:aZ}(ok:W.Ok)(hn:W.ties.length≤10):0 < o5 1 W.ties∧Bt 71 (o5 1 W.ties):=by
  obtain⟨a,b⟩:=o6 (ts:=W.ties) (M:=1) (k:=1) (fun t ht=>ok.ties t ht) ⋯ (by unfold Bt;decide)
  exact⟨a,b.mono ↥0⟩
theorem wW{W:aZ}(ok:W.Ok)(hn:W.ties.length≤10){bs:List Bool}(hl:bs.length=W.ties.length):0 < (pX (1,1) W.ties bs).2∧Bt 300 (pX (1,1) W.ties bs).1∧Bt 300 (pX (1,1) W.ties bs).2:=by
  obtain⟨m0,m1⟩:=oj ok hn
  have pr:=sv (fun t ht=>ok.ties t ht) hl pA
  obtain⟨c1,c2⟩:=pr.bt m1 m0
  exact⟨pr.pos,c1.mono ⋯,c2.mono ⋯⟩
def yJ(W:aZ)(x:List Bool→Fr):Prop:=∀b,b.length=W.ties.length→rF (o5 1 W.ties) 16000 (x b)
def mi(W:aZ)(T:List Nd)(bs:List Bool):Fr:=tm (pX (1,1) W.ties bs) (kw W (rn T bs 17 (rt T)),1)
theorem vS{W:aZ}(ok:W.Ok){T:List Nd}{S:Nat→Std}(hT:iy W T S):yJ W (mi W T):=fun bs hl=>by
  have pr:=sv (fun t ht=>ok.ties t ht) hl pA
  have hv:=Da ok (w_ ok hT bs)
  have:=pr.tmS (M:=1) (i:=16000) (y:=(kw W (rn T bs 17 (rt T)),1)) ⟨Int.zero_lt_one,hv.1,by show kw _ _≤16000*1;lia,Int.dvd_refl _⟩
  rw [Int.mul_one] at this
  exact this
theorem C_{W:aZ}(ok:W.Ok){T:List Nd}{S:Nat→Std}(hT:iy W T S)(bs:List Bool):Bt 300 (kw W (rn T bs 17 (rt T)))∧Bt 300 (1:Int):=by
  have hv:=Da ok (w_ ok hT bs)
  exact⟨Bt.mono (m:=20) (by unfold Bt;lia) ⋯,Bt.mono (m:=1) (by unfold Bt;decide) ⋯⟩
theorem E3{W:aZ}(ok:W.Ok)(hn:W.ties.length≤10){x:List Bool→Fr}(hx:yJ W x){L:List (List Bool)}(hL:∀b∈L,b.length=W.ties.length)(hl:L.length≤1024):0 < (bZ (0,1) (L.map x)).2∧Bt 300 (bZ (0,1) (L.map x)).1∧Bt 300 (bZ (0,1) (L.map x)).2:=by
  obtain⟨m0,m1⟩:=oj ok hn
  obtain⟨c1,_,_⟩:=oq (M:=o5 1 W.ties) (j:=16000) (L.map x) (a:=(0,1)) (i:=0) (wc (Int.le_refl 0)) sV ⋯ fun f hf=>by
    obtain⟨b,hb,rfl⟩:=LI hf
    exact hx b (hL b hb)
  have bt:=c1.bt (n:=71) (m:=30) m1 m0 (by unfold Bt;rw [List.length_map];lia)
  exact⟨c1.pos,bt.1.mono ⋯,bt.2.mono ⋯⟩
theorem Du{W:aZ}(ok:W.Ok)(hn:W.ties.length≤10){x:List Bool→Fr}(hx:yJ W x){b:List Bool}(hb:b.length=W.ties.length):0 < (x b).2∧Bt 300 (x b).1∧Bt 300 (x b).2:=by
  obtain⟨m0,m1⟩:=oj ok hn
  have ta:=hx b hb
  have bt:=ta.bt (n:=71) (m:=20) m1 m0 (by unfold Bt;decide)
  exact⟨ta.pos,bt.1.mono ⋯,bt.2.mono ⋯⟩
theorem uF{W:aZ}(ok:W.Ok)(hn:W.ties.length≤10){x:List Bool→Fr}(hx:yJ W x){v0:Option Sv}:∀(L D:List (List Bool)) (v2:Option Sv),(∀b∈L,b.length=W.ties.length)→(∀b∈D,b.length=W.ties.length)→D.length+L.length≤1024→
    ∃w2,iz [] (ah 2) iL ((L.map x).map dF) [v0,some (.d (dF (bZ (0,1) (D.map x)))),v2]=some (.nx [v0,some (.d (dF (bZ (0,1) ((D++L).map x)))),w2])
  | [],D,v2,_,_,_=>⟨v2,by simp [iz]⟩
  | b::L,D,v2,hL,hD,hl=>by
    simp only [List.length_cons] at hl
    obtain⟨s0,s1,s2⟩:=E3 ok hn hx hD ↥0
    obtain⟨u0,u1,u2⟩:=Du ok hn hx (hL b ↥1)
    have tp:=Fe (a:=bZ (0,1) (D.map x)) (b:=x b) (n:=300) s0 u0 s1 s2 u1 u2 ⋯
    have es:pl (bZ (0,1) (D.map x)) (x b)=bZ (0,1) ((D++[b]).map x):=by simp [bZ]
    rw [es] at tp
    obtain⟨w2,ih⟩:=uF ok hn hx (v0:=v0) L (D++[b]) (some (.d (dF (x b)))) (fun x hx=>hL x (by simp [hx])) (fun x hx=>by
      rcases LH hx with z | z
      · exact hD x z
      · simp at z;rw [z];exact hL b ↥1) ↥7
    refine⟨w2,?_⟩
    have hg:ah 2 (dF (x b)) [v0,some (.d (dF (bZ (0,1) (D.map x)))),v2]=some [v0,some (.d (dF (bZ (0,1) (D.map x)))),some (.d (dF (x b)))]:=rfl
    have hb:iL [v0,some (.d (dF (bZ (0,1) (D.map x)))),some (.d (dF (x b)))]=some (.nx [v0,some (.d (dF (bZ (0,1) ((D++[b]).map x)))),some (.d (dF (x b)))]):=by
      generalize dF (bZ (0,1) ((D++[b]).map x))=q at tp ⊢
      generalize dF (bZ (0,1) (D.map x))=q2 at tp ⊢
      generalize dF (x b)=q3 at tp ⊢
      simp? [iL,tp]
    simp only [List.map_cons,iz,hg,Option.bind_some,hb]
    rw [if_pos bh,ih]
    simp
theorem CA{W:aZ}(ok:W.Ok)(hn:W.ties.length≤10){x:List Bool→Fr}(hx:yJ W x){L:List (List Bool)}(hL:∀b∈L,b.length=W.ties.length)(hl:L.length≤1024):kd [.d (.list ((L.map x).map dF))]=some (.d (dF (bZ (0,1) (L.map x))),[.d (.list ((L.map x).map dF))]):=by
  obtain⟨w2,h⟩:=uF ok hn hx (v0:=some (.d (.list ((L.map x).map dF)))) L [] none hL (fun b hb=>by cases hb) (by simpa using hl)
  rw [List.nil_append] at h
  have hs:∀Wl,cN Wl mB (ah 2) iL [some (.d (.list ((L.map x).map dF))),some (.d (.tuple [.int 0,.int 1])),none]=some (.nx [some (.d (.list ((L.map x).map dF))),some (.d (dF (bZ (0,1) (L.map x)))),w2]):=fun Wl=>by
    rw [cQ (show mB _=_ from Bx rfl)]
    exact h
  generalize dF (bZ (0,1) (L.map x))=q at hs ⊢
  generalize (L.map x).map dF=M at hs ⊢
  simp? [kd,wz,hs]
theorem mh{W:aZ}(ok:W.Ok)(hn:W.ties.length≤10){T:List Nd}{S:Nat→Std}(hT:iy W T S):bU [.d (aI W),.d (.tuple (T.map h_))]=some (.d (dF (bZ (0,1) ((bC W.ties.length).map (mi W T)))),[.d (aI W),.d (.tuple (T.map h_))]):=by
  have g1':∀e:En,bD e (.d (aI W)) (.d (.int 1))=some (.d (.tuple (W.ties.map be))):=fun e=>by rw [cG,fm,dg];rfl
  have hx:=vS ok hT
  obtain⟨pl,pr⟩:=mM W.ties.length
  have pw:=Ah (n:=W.ties.length) ↥0
  have ref:cW [.d (.int (W.ties.length:Int)),.d (.int 10)]=some (.d .none,[.d (.int (W.ties.length:Int)),.d (.int 10)]):=by
    have c:¬(10:Int) < (W.ties.length:Int):=by lia
    simp? [cW,jB,c]
  have ta:=qh (n:=W.ties.length) ↥0
  obtain⟨t',h3⟩:=ce (cs:=[some (.d (aI W)),some (.d (.tuple (T.map h_)))]) (ft:=bE) (fe:=ef) (b:=fun _=>true) (y:=fun d=>match d with | .tuple ds=>(match oE ds with | some bs=>dF (mi W T bs) | none=>.none) | _=>.none) ((bC W.ties.length).map dB) none [] ↥4 (fun x hx _=>by
    obtain⟨bs,hb,rfl⟩:=LI hx
    have hl:=pr bs hb
    have tc:=j0 ok hl
    have tr:=(vQ ok hT hl).1
    have th:=sQ (w_ ok hT bs)
    obtain⟨p0,p1,p2⟩:=wW ok ↥0 hl
    obtain⟨q1,q2⟩:=C_ ok hT bs
    have tt:=xt (a:=pX (1,1) W.ties bs) (b:=(kw W (rn T bs 17 (rt T)),1)) (n:=300) p0 Int.zero_lt_one p1 p2 q1 q2 ⋯
    change gj _=some (.d (dF (mi W T bs)),_) at tt
    have e0:dF (kw W (rn T bs 17 (rt T)),1)=.tuple [.int (kw W (rn T bs 17 (rt T))),.int 1]:=rfl
    rw [e0] at tt
    unfold dB
    simp only [kQ]
    generalize dF (mi W T bs)=z at tt ⊢
    generalize dF (pX (1,1) W.ties bs)=z2 at tc tt
    generalize kw W (rn T bs 17 (rt T))=z3 at th tt
    generalize (rn T bs 17 (rt T)).map dR=z4 at tr th
    simp? [ef,tc,tr,th,tt]) ↥7
  rw [List.filter_eq_self.mpr ↥4,List.nil_append,show((bC W.ties.length).map dB).map (fun d:PyData=>match d with | .tuple ds=>(match oE ds with | some bs=>dF (mi W T bs) | none=>.none) | _=>.none)=((bC W.ties.length).map (mi W T)).map dF by
    rw [List.map_map,List.map_map]
    exact List.map_congr_left fun bs _=>by simp [dB,kQ]] at h3
  have hi:gN [some (.d (aI W)),some (.d (.tuple (T.map h_)))]=some ((bC W.ties.length).map dB,[],[some (.d (aI W)),some (.d (.tuple (T.map h_)))]):=ve (by simp? [g1',ta])
  have hv:bG [(0,"web"),(1,"tree")] 1 gN (ah 2) bE ef [some (.d (aI W)),some (.d (.tuple (T.map h_)))]=some (.l (((bC W.ties.length).map (mi W T)).map dF),[some (.d (aI W)),some (.d (.tuple (T.map h_)))]):=lc hi h3 rfl
  have tt:=CA ok ↥0 hx pr ↥0
  generalize dF (bZ (0,1) ((bC W.ties.length).map (mi W T)))=q at tt ⊢
  generalize ((bC W.ties.length).map (mi W T)).map dF=M at tt hv
  generalize T.map h_=TT at*
  simp? [bU,lx,g1',ref,hv,tt]
abbrev Bc(W:aZ)(T:List Nd)(f:Fr)(v3 v4:Option Sv):En:=[some (.d (aI W)),some (.d (.tuple (T.map h_))),some (.d (dF f)),v3,v4]
theorem y8{W:aZ}(ok:W.Ok)(hn:W.ties.length≤10){T:List Nd}{S:Nat→Std}(hT:iy W T S){D:List (List Bool)}{b:List Bool}(hD:∀b∈D,b.length=W.ties.length)(hb:b.length=W.ties.length)(hl:D.length < 1024)(v4:Option Sv):
    ∃w4,cS (Bc W T (bZ (0,1) (D.map (mi W T))) (some (.d (dB b))) v4)=some (.nx (Bc W T (bZ (0,1) ((D++[b]).map (mi W T))) (some (.d (dB b))) w4)):=by
  have hx:=vS ok hT
  obtain⟨s0,s1,s2⟩:=E3 ok hn hx hD ↥0
  obtain⟨u0,u1,u2⟩:=Du ok hn hx hb
  have tp:=E6 (a:=bZ (0,1) (D.map (mi W T))) (b:=mi W T b) (n:=300) s0 u0 s1 s2 u1 u2 ⋯
  have es:pl (bZ (0,1) (D.map (mi W T))) (mi W T b)=bZ (0,1) ((D++[b]).map (mi W T)):=by simp [bZ]
  rw [es] at tp
  have tc:=nM ok hb
  have tr:=vP ok hT hb
  have th:=E5 (w_ ok hT b)
  obtain⟨p0,p1,p2⟩:=wW ok hn hb
  obtain⟨q1,q2⟩:=C_ ok hT b
  have tt:=xm (a:=pX (1,1) W.ties b) (b:=(kw W (rn T b 17 (rt T)),1)) (n:=300) p0 Int.zero_lt_one p1 p2 q1 q2 ⋯
  change ip _=some (.d (dF (mi W T b)),_) at tt
  have e0:dF (kw W (rn T b 17 (rt T)),1)=.tuple [.int (kw W (rn T b 17 (rt T))),.int 1]:=rfl
  rw [e0] at tt
  refine⟨some (.d (.tuple [.int (kw W (rn T b 17 (rt T))),.int 1])),?_⟩
  unfold dB Bc
  generalize dF (bZ (0,1) ((D++[b]).map (mi W T)))=z0 at tp ⊢
  generalize dF (bZ (0,1) (D.map (mi W T)))=z1 at tp ⊢
  generalize dF (mi W T b)=z2 at tp tt
  generalize dF (pX (1,1) W.ties b)=z3 at tc tt
  generalize kw W (rn T b 17 (rt T))=z4 at*
  generalize (rn T b 17 (rt T)).map dR=z5 at tr th
  generalize T.map h_=TT at*
  simp? [cS,tr,tc,th,tt,tp]
theorem sP{W:aZ}(ok:W.Ok)(hn:W.ties.length≤10){T:List Nd}{S:Nat→Std}(hT:iy W T S):cx [.d (aI W),.d (.tuple (T.map h_))]=some (.d (dF (bZ (0,1) ((aX W.ties.length).map (mi W T)))),[.d (aI W),.d (.tuple (T.map h_))]):=by
  have g1':∀e:En,bD e (.d (aI W)) (.d (.int 1))=some (.d (.tuple (W.ties.map be))):=fun e=>by rw [cG,fm,dg];rfl
  obtain⟨ql,qr⟩:=iV W.ties.length
  have pw:=Ah (n:=W.ties.length) ↥0
  obtain⟨e3,h3,⟨w5,w6,rfl⟩⟩:=cI (own:=[]) (g:=ah 3) (f:=cS) (fun i e=>∃v3 v4,e=Bc W T (bZ (0,1) (((aX W.ties.length).take i).map (mi W T))) v3 v4) ((aX W.ties.length).map dB) 0 (Bc W T (0,1) none none) (fun i x e hx ⟨v5,v6,he⟩=>by
    subst he
    rw [List.getElem?_map] at hx
    obtain⟨b,hp1,rfl⟩:=LF hx
    have hi:i < (aX W.ties.length).length:=(LG hp1).1
    obtain⟨w6,st⟩:=y8 ok hn hT (D:=(aX W.ties.length).take (0+i)) (b:=b) (fun x hx=>qr x (List.mem_of_mem_take hx)) (qr b (LK hp1)) ↥7 v6
    have e2:(aX W.ties.length).take (0+i+1)=(aX W.ties.length).take (0+i)++[b]:=by
      rw [List.take_succ,show(aX W.ties.length)[0+i]?=some b by simpa using hp1]
      simp
    rw [←e2] at st
    exact⟨_,_,rfl,st,bh,_,_,rfl⟩) ⟨none,none,rfl⟩
  rw [show(aX W.ties.length).take (0+((aX W.ties.length).map dB).length)=aX W.ties.length by simp] at h3
  have tl:=qg (n:=W.ties.length) ↥0
  have hf:∀Wl,cN Wl gM (ah 3) cS (Bc W T (0,1) none none)=some (.nx (Bc W T (bZ (0,1) ((aX W.ties.length).map (mi W T))) w5 w6)):=fun Wl=>by
    rw [cQ (show gM (Bc W T (0,1) none none)=some ((aX W.ties.length).map dB,[],Bc W T (0,1) none none) from ve (by simp? [g1',tl]))]
    exact h3
  unfold Bc at hf
  have e01:dF ((0,1):Fr)=.tuple [.int 0,.int 1]:=rfl
  rw [e01] at hf
  generalize dF (bZ (0,1) ((aX W.ties.length).map (mi W T)))=z at*
  generalize T.map h_=TT at*
  simp? [cx,lw,hf]
theorem Fc{W:aZ}(ok:W.Ok)(hn:W.ties.length≤10){T:List Nd}{S:Nat→Std}(hT:iy W T S):∃f:Fr,bU [.d (aI W),.d (.tuple (T.map h_))]=some (.d (dF f),[.d (aI W),.d (.tuple (T.map h_))])∧cx [.d (aI W),.d (.tuple (T.map h_))]=some (.d (dF f),[.d (aI W),.d (.tuple (T.map h_))])∧gR [.d (dF f),.d (dF f)]=some (.d (.bool true),[.d (dF f),.d (dF f)]):=by
  have t1:=mh ok hn hT
  have t2:=sP ok hn hT
  obtain⟨ql,qr⟩:=iV W.ties.length
  have pw:=Ah (n:=W.ties.length) ↥0
  have hx:=vS ok hT
  have m0:=(oj ok ↥0).1
  have ep:bZ (0,1) ((bC W.ties.length).map (mi W T))=bZ (0,1) ((aX W.ties.length).map (mi W T)):=ym (M:=o5 1 W.ties) (j:=16000) m0 ⋯ ((iW W.ties.length).map (mi W T)) fun f hf=>by
    obtain⟨b,hb,rfl⟩:=LI hf
    exact hx b ((mM W.ties.length).2 b hb)
  rw [ep] at t1
  obtain⟨s0,s1,s2⟩:=E3 ok ↥0 hx (L:=aX W.ties.length) qr ↥0
  have sz:=Sz.fr s1 s2 ⋯ ⋯
  exact⟨_,t1,t2,sO sz ⋯ ⋯⟩
theorem xu{P:mr→Prop}:∀{ds:List PyData},(∀d∈ds,∃t,d=be t∧P t)→∃ts:List mr,ds=ts.map be∧∀t∈ts,P t
  | [],_=>⟨[],rfl,fun _ h=>by cases h⟩
  | d::r,h=>by
    obtain⟨t,rfl,ht⟩:=h d ↥1
    obtain⟨ts,rfl,hts⟩:=xu (P:=P) (ds:=r) fun d hd=>h d (by simp [hd])
    refine⟨t::ts,rfl,fun u hu=>?_⟩
    rcases LJ hu with rfl | hu
    · exact ht
    · exact hts u hu
theorem y6{xs:List PyData}{m:Nat}:L2.cutD xs none (some (m:Int))=xs.take m:=by
  unfold L2.cutD
  rw [HT.sIx_none,HT.sIx_nat]
  simp only [List.drop_zero,Nat.sub_zero]
  rcases Nat.le_total m xs.length with z | z
  · rw [Nat.min_eq_left z]
  · rw [Nat.min_eq_right z,List.take_of_length_le ↥8,List.take_of_length_le z]
theorem GR{ds:List Int}(hd:fQ ds):∃(W:aZ) (ds':List Int),tV [.l (ds.map .int)]=some (.d (aI W),[.l (ds'.map .int)])∧fQ ds'∧W.Ok∧W.ties.length≤10:=by
  obtain⟨ts,d1,tt,hd1,tl,to⟩:=vR ds 12 10 hd ⋯ ⋯ ⋯ ⋯
  obtain⟨out,e2,h2,h3,h4,⟨d2,v,he2,hd2⟩⟩:=qC (g:=ah 1) (ft:=bE) (fe:=oi) (fun i e=>∃ds v,e=[some (.l (ds.map .int)),v]∧fQ ds) (fun d=>∃t,d=be t∧t.Ok 12) (ts.map be) 0 [some (.l (d1.map .int)),none] [] (fun i x e hx ⟨ds,v,he,hd⟩=>by
    subst he
    rw [List.getElem?_map] at hx
    obtain⟨t,ht,rfl⟩:=LF hx
    have o:=to t (LK ht)
    obtain⟨n,d3,t3,a3,b3,hd3⟩:=hV hd
    obtain⟨a,b,tc,h0,h1,h2,h3,h4⟩:=uC n 0 a3
    refine⟨_,.d (be ⟨t.one,t.other,a,b,t.worth⟩),be ⟨t.one,t.other,a,b,t.worth⟩,_,rfl,rfl,?_,rfl,⟨_,rfl,⟨o.o0,o.o1,o.o2,h0,h1,h2,h3,o.w0,o.w1,h4⟩⟩,d3,some (.d (be t)),rfl,hd3⟩
    have c1:∀(x0 x1 x2 x3:PyData),L2.cutD [x0,x1,x2,x3] none (some 2)=[x0,x1]:=fun _ _ _ _=>rfl
    have c2:∀(x0 x1 x2 x3:PyData),L2.cutD [x0,x1,x2,x3] (some 3) none=[x3]:=fun _ _ _ _=>rfl
    unfold be
    simp? [oi,t3,tc,jp,c1,c2,mv]) ⟨d1,none,rfl,hd1⟩ ↥7
  subst he2
  obtain⟨us,rfl,hus⟩:=xu h4
  rw [List.nil_append] at h2
  have hv:bG [(0,"_law_drawn")] 1 rY (ah 1) bE oi [some (.l (ds.map .int)),none]=some (.l (us.map be),[some (.l (d2.map .int)),none]):=by
    rw [yw (cp:=[(0,"_law_drawn")]) (nT:=1) (fi:=rY) (e:=[some (.l (ds.map .int)),none]) (e1:=[some (.l (d1.map .int)),none]) (items:=ts.map be) (mz (by simp? [tt])) h2 rfl]
    refine congrArg (fun z=>some (Rv.l (us.map be),z)) ?_
    exact yr (j:=0) (k:=0) (xs:=d1.map .int) rfl rfl rfl fun i hi=>.inl (by
      cases i with
      | zero=>exact absurd rfl hi
      | succ i=>rfl)
  obtain⟨n,d3,t3,a3,b3,hd3⟩:=hV hd2
  have g2':∀e:En,ba e (.d (.int n)) (.d (.int 20))=some (.d (.int (n % 20))):=fun e=>aO ⋯
  have q0:=yE (n:=n) (k:=20) ⋯;have q1:=yF (n:=n) (k:=20) ⋯
  simp only [List.length_map] at h3
  refine⟨⟨12,us,List.replicate 12 (1+n % 20),10⟩,d3,?_,hd3,⟨(by show(0:Int)≤12;decide),(by show(12:Int)≤12;decide),hus,by show us.length≤16;lia,by simp,fun p hp=>?_,(by show(0:Int)≤10;decide),(by show(10:Int)≤40;decide)⟩,by show us.length≤10;lia⟩
  · have gr:∀(e:En) (d:PyData),bQ e (.d (.tuple [d])) (.d (.int 12))=some (.d (.tuple (List.replicate 12 d))):=fun e d=>vd (n:=12) ⋯ ⋯
    have eW:aI ⟨12,us,List.replicate 12 (1+n % 20),10⟩=.tuple [.int 12,.tuple (us.map be),.tuple (List.replicate 12 (.int (1+n % 20))),.int 10]:=by
      show PyData.tuple [.int 12,.tuple (us.map be),.tuple ((List.replicate 12 (1+n % 20)).map .int),.int 10]=_
      rw [List.map_replicate]
    rw [eW]
    generalize n % 20=y at*
    generalize us.map be=U at*
    have gt:∀(e:En),g1 cf e [.l U]=some (.d (.tuple U)):=fun e=>rfl
    simp? [tV,CZ,hv,t3,g2',gr,dm]
  · have:=List.eq_of_mem_replicate hp
    lia
theorem rj{W:aZ}(ok:W.Ok)(hn:10 < W.ties.length){d:PyData}:iQ [.d (aI W),.d d]=some (.d (.bool true),[.d (aI W),.d d]):=by
  have g1':∀e:En,bD e (.d (aI W)) (.d (.int 1))=some (.d (.tuple (W.ties.map be))):=fun e=>by rw [cG,fm,dg];rfl
  have len:=ok.len
  refine D6 rfl rfl ⟨[.int (W.ties.length:Int),.int 10],[some (.d (aI W)),some (.d d)],?_,rfl,?_⟩
  · simp? [g1']
  · have c:(10:Int) < (W.ties.length:Int):=by lia
    refine⟨[some (.d (.int (W.ties.length:Int))),some (.d (.int 10))],?_,rfl,?_⟩
    · simp? [c]
    · have a:∀e:En,rV e (.d (.int (W.ties.length:Int)))=some (.d (.str (nS (W.ties.length:Int)))):=fun e=>tN ↥0 ↥0
      have b:∀e:En,rV e (.d (.int 10))=some (.d (.str (nS 10))):=fun e=>tN ⋯ ⋯
      have l1:=wR ⟨W.ties.length,by lia⟩
      have l2:=wR ⟨10,by lia⟩
      change (nS (W.ties.length:Int)).length≤4 at l1
      change (nS 10).length≤4 at l2
      have l3:(Str.ofString " are more than ").length=15:=by decide
      have l:(nS (W.ties.length:Int)).length+(Str.ofString " are more than ").length+(nS 10).length≤1000000:=by lia
      generalize nS (W.ties.length:Int)=x at*
      generalize nS 10=y at*
      refine⟨[.d (.str (Str.empty++x++Str.ofString " are more than "++y))],[some (.d (.int (W.ties.length:Int))),some (.d (.int 10))],?_,rfl⟩
      simp? [a,b,G5,rq,l]
abbrev mE(ns ds:List Int)(v2 v3 v4 v5 v6 v7 v8:Option Sv):En:=[some (.d (.list (ns.map .int))),some (.l (ds.map .int)),v2,v3,v4,v5,v6,v7,v8]
theorem xK{W:aZ}(ok:W.Ok){bs:List Bool}(hl:bs.length=W.ties.length):∃d:PyData,bK [.d (aI W),.d (.tuple (bs.map .bool))]=some (.d d,[.d (aI W),.d (.tuple (bs.map .bool))])∧cq [.d (aI W),.d (.tuple (bs.map .bool))]=some (.d d,[.d (aI W),.d (.tuple (bs.map .bool))])∧gR [.d d,.d d]=some (.d (.bool true),[.d d,.d d]):=by
  have t1:=j0 ok hl
  have t2:=nM ok hl
  obtain⟨a,b⟩:=o6 (ts:=W.ties) (M:=1) (k:=1) (fun t ht=>ok.ties t ht) ⋯ (by unfold Bt;decide)
  have len:=ok.len
  have b':Bt 120 (o5 1 W.ties):=b.mono ↥0
  have pr:=sv (fun t ht=>ok.ties t ht) hl pA
  obtain⟨c1,c2⟩:=pr.bt b' a
  have sz:=Sz.fr (c1.mono ⋯:Bt 300 _) (c2.mono ⋯:Bt 300 _) ⋯ ⋯
  exact⟨_,t1,t2,sO sz ⋯ ⋯⟩
theorem zw{ns ds:List Int}(hd:fQ ds){W:aZ}(ok:W.Ok)(v2 v5 v6 v7 v8:Option Sv):∃ds' w5,fQ ds'∧∀Wl,cN Wl Hn (ah 5) GZ (mE ns ds v2 (some (.d (aI W))) (some (.d (.int (W.ties.length:Int)))) v5 v6 v7 v8)=some (.nx (mE ns ds' v2 (some (.d (aI W))) (some (.d (.int (W.ties.length:Int)))) w5 v6 v7 v8)):=by
  have wl:=ok.len
  obtain⟨d3,b1,t3,hd3,l3⟩:=rg (many:=(W.ties.length:Int)) hd ↥0 ↥0
  obtain⟨d4,b2,t4,hd4,l4⟩:=rg (many:=(W.ties.length:Int)) hd3 ↥0 ↥0
  obtain⟨e3,h3,⟨w5,rfl⟩⟩:=cI (own:=[]) (g:=ah 5) (f:=GZ) (fun i e=>∃v5,e=mE ns d4 v2 (some (.d (aI W))) (some (.d (.int (W.ties.length:Int)))) v5 v6 v7 v8) ([b1,b2,List.replicate W.ties.length true,List.replicate W.ties.length false].map dB) 0 (mE ns d4 v2 (some (.d (aI W))) (some (.d (.int (W.ties.length:Int)))) v5 v6 v7 v8) (fun i x e hx ⟨v5,he⟩=>by
    subst he
    rw [List.getElem?_map] at hx
    obtain⟨b,hp1,rfl⟩:=LF hx
    have hb:b.length=W.ties.length:=by
      have:=LK hp1
      simp only [List.mem_cons,List.not_mem_nil,or_false] at this
      rcases this with rfl | rfl | rfl | rfl<;>first | lia | simp
    obtain⟨d,c1,c2,c3⟩:=xK ok hb
    refine⟨_,_,rfl,?_,bh,some (.d (dB b)),rfl⟩
    unfold dB
    simp? [GZ,c1,c2,c3]) ⟨v5,rfl⟩
  refine⟨d4,w5,hd4,fun Wl=>?_⟩
  have gr:∀(e:En) (b:Bool),bQ e (.d (.tuple [.bool b])) (.d (.int (W.ties.length:Int)))=some (.d (.tuple (List.replicate W.ties.length (.bool b)))):=fun e b=>by
    have:=vd (e:=e) (d:=.bool b) (n:=(W.ties.length:Int)) ↥0 ↥0
    rw [Int.toNat_natCast] at this
    exact this
  have e1:∀b:Bool,dB (List.replicate W.ties.length b)=.tuple (List.replicate W.ties.length (.bool b)):=fun b=>by unfold dB;rw [List.map_replicate]
  rw [cQ (show Hn (mE ns ds v2 (some (.d (aI W))) (some (.d (.int (W.ties.length:Int)))) v5 v6 v7 v8)=some ([b1,b2,List.replicate W.ties.length true,List.replicate W.ties.length false].map dB,[],mE ns d4 v2 (some (.d (aI W))) (some (.d (.int (W.ties.length:Int)))) v5 v6 v7 v8) from ve (by
    simp only [List.map_cons,List.map_nil,e1]
    unfold dB
    have gr1:=fun e=>gr e true
    have gr2:=fun e=>gr e false
    clear gr
    generalize (W.ties.length:Int)=L at*
    generalize List.replicate W.ties.length (PyData.bool true)=R1 at*
    generalize List.replicate W.ties.length (PyData.bool false)=R2 at*
    simp? [t3,t4,gr1,gr2]))]
  exact h3
def sW(W:aZ)(m:Nat):aZ:=⟨W.things,W.ties.take m,W.pat,W.asks⟩
theorem Dr{W:aZ}(ok:W.Ok){m:Nat}:(sW W m).Ok:=⟨ok.t0,ok.t1,fun t ht=>ok.ties t (List.mem_of_mem_take ht),by have:=ok.len;show(W.ties.take m).length≤16;rw [List.length_take];lia,ok.pl,ok.pat,ok.a0,ok.a1⟩
theorem HD{W:aZ}{m:Nat}:aI (sW W m)=.tuple [.int W.things,.tuple (L2.cutD (W.ties.map be) none (some (m:Int))),.tuple (W.pat.map .int),.int W.asks]:=by
  rw [y6]
  show PyData.tuple [.int W.things,.tuple ((W.ties.take m).map be),.tuple (W.pat.map .int),.int W.asks]=_
  rw [List.map_take]
theorem oS{ns ds:List Int}(hd:fQ ds){W:aZ}(ok:W.Ok)(hn:W.ties.length≤10):∃ds' T f,mF [.l (ds.map .int),.d (aI W),.d (.bool false)]=some (.d T,[.l (ds'.map .int),.d (aI W),.d (.bool false)])∧fQ ds'∧bU [.d (aI W),.d T]=some (.d f,[.d (aI W),.d T])∧cx [.d (aI W),.d T]=some (.d f,[.d (aI W),.d T])∧gR [.d f,.d f]=some (.d (.bool true),[.d f,.d f]):=by
  obtain⟨d2,T,S,tt,hd2,hT,hl⟩:=Ff ok false hd
  obtain⟨f,h1,h2,h3⟩:=Fc ok hn hT
  exact⟨d2,.tuple (T.map h_),dF f,tt,hd2,h1,h2,h3⟩
theorem zx{ns ds:List Int}(hd:fQ ds){q:Int}(q0:0≤q)(q1:q < 3)(v3 v4 v5 v6 v7 v8:Option Sv):∃ds' w3 w4 w5 w6 w7,DG (mE ns ds (some (.d (.int q))) v3 v4 v5 v6 v7 v8)=some (.nx (mE ns ds' (some (.d (.int q))) w3 w4 w5 w6 w7 v8))∧fQ ds':=by
  obtain⟨W,d1,tw,hd1,ok,_,_⟩:=GT ds 12 16 hd ⋯ ⋯ ⋯ ⋯
  obtain⟨d2,w5,hd2,hf⟩:=zw (ns:=ns) hd1 ok (some (.d (.int q))) v5 v6 v7 v8
  have g0:∀e:En,bD e (.d (aI W)) (.d (.int 0))=some (.d (.int W.things)):=fun e=>by rw [cG,fm,i4];rfl
  have g1':∀e:En,bD e (.d (aI W)) (.d (.int 1))=some (.d (.tuple (W.ties.map be))):=fun e=>by rw [cG,fm,dg];rfl
  have g2:∀e:En,bD e (.d (aI W)) (.d (.int 2))=some (.d (.tuple (W.pat.map .int))):=fun e=>rfl
  have g3:∀e:En,bD e (.d (aI W)) (.d (.int 3))=some (.d (.int W.asks)):=fun e=>rfl
  obtain⟨m,hm,ha⟩:∃m:Nat,m≤10∧atI [PyData.int 6,.int 5,.int 4] q=some (.int (m:Int)):=by
    rcases(show q=0∨q=1∨q=2 by lia) with rfl | rfl | rfl
    · exact⟨6,by decide,rfl⟩
    · exact⟨5,by decide,rfl⟩
    · exact⟨4,by decide,rfl⟩
  have wd:=HD (W:=W) (m:=m)
  have sl:(sW W m).ties.length≤10:=by show(W.ties.take m).length≤10;rw [List.length_take];lia
  have lenI:∀e:En,g1 fU e [.d (.tuple (W.ties.map be))]=some (.d (.int (W.ties.length:Int))):=fun e=>by simp [g1,fU,fN]
  by_cases c2:q=2
  · subst c2
    obtain⟨n,d3,t3,a3,b3,hd3⟩:=hV hd2
    have g4:∀e:En,ba e (.d (.int n)) (.d (.int 4))=some (.d (.int (n % 4))):=fun e=>aO ⋯
    by_cases c:n % 4=0
    · obtain⟨W',d4,t4,hd4,ok',hn'⟩:=GR hd3
      obtain⟨d5,T,f,t5,hd5,u1,u2,u3⟩:=oS (ns:=ns) hd4 ok' hn'
      rw [c] at g4
      refine⟨d5,some (.d (aI W)),some (.d (.int (W.ties.length:Int))),w5,some (.d (aI W')),some (.d T),?_,hd5⟩
      generalize aI W'=X' at*
      generalize W.ties.map be=TT at*
      generalize W.pat.map PyData.int=PP at*
      generalize (W.ties.length:Int)=L at*
      generalize aI W=X at*
      simp? [DG,tw,g0,g1',g2,g3,lenI,hf,ha,jp,t3,g4,t4,t5,u1,u2,u3]
    · obtain⟨d5,T,f,t5,hd5,u1,u2,u3⟩:=oS (ns:=ns) hd3 (Dr (m:=m) ok) sl
      refine⟨d5,some (.d (aI W)),some (.d (.int (W.ties.length:Int))),w5,some (.d (aI (sW W m))),some (.d T),?_,hd5⟩
      rw [wd] at*
      generalize n % 4=n4 at*
      generalize W.ties.map be=TT at*
      generalize W.pat.map PyData.int=PP at*
      generalize (W.ties.length:Int)=L at*
      generalize aI W=X at*
      simp? [DG,tw,g0,g1',g2,g3,lenI,hf,ha,jp,t3,g4,c,t5,u1,u2,u3]
  · obtain⟨d5,T,f,t5,hd5,u1,u2,u3⟩:=oS (ns:=ns) hd2 (Dr (m:=m) ok) sl
    refine⟨d5,some (.d (aI W)),some (.d (.int (W.ties.length:Int))),w5,some (.d (aI (sW W m))),some (.d T),?_,hd5⟩
    rw [wd] at*
    generalize W.ties.map be=TT at*
    generalize W.pat.map PyData.int=PP at*
    generalize (W.ties.length:Int)=L at*
    generalize aI W=X at*
    simp? [DG,tw,g0,g1',g2,g3,lenI,hf,ha,jp,c2,t5,u1,u2,u3]
theorem C3:(aZ.mk 0 [] [] 0).Ok:=⟨by decide,by decide,(fun t h=>by cases h),by decide,rfl,(fun p h=>by cases h),by decide,by decide⟩
theorem zy(ns:List Int)(hl:ns.length≤63):∃as',oY [.d (.list (ns.map .int))]=some (.d (.bool true),as'):=by
  obtain⟨ds,td,hd⟩:=Cy ns hl
  obtain⟨e2,h1,⟨ds2,w2,w3,w4,w5,w6,w7,rfl,hd2⟩⟩:=cI (own:=[]) (g:=ah 2) (f:=DG) (fun i e=>∃ds v2 v3 v4 v5 v6 v7,e=mE ns ds v2 v3 v4 v5 v6 v7 none∧fQ ds) (bu 0 3) 0 (mE ns ds none none none none none none none) (fun i x e hx ⟨ds,v2,v3,v4,v5,v6,v7,he,hd⟩=>by
    subst he
    obtain⟨rfl,hi⟩:=cy hx
    obtain⟨d',x3,x4,x5,x6,x7,st,hd'⟩:=zx (ns:=ns) hd (q:=0+(i:Int)) ↥0 ↥0 v3 v4 v5 v6 v7 none
    exact⟨_,_,rfl,st,bh,_,_,_,_,_,_,_,rfl,hd'⟩) ⟨ds,_,_,_,_,_,_,rfl,hd⟩
  have hfor:∀Wl,cN Wl HS (ah 2) DG (mE ns ds none none none none none none none)=some (.nx (mE ns ds2 w2 w3 w4 w5 w6 w7 none)):=fun Wl=>by
    rw [cQ (items:=bu 0 3) (e1:=mE ns ds none none none none none none none) rfl]
    exact h1
  obtain⟨n,d3,t3,a3,b3,hd3⟩:=hV hd2
  have g6:∀e:En,ba e (.d (.int n)) (.d (.int 6))=some (.d (.int (n % 6))):=fun e=>aO ⋯
  have q0:=yE (n:=n) (k:=6) ⋯;have q1:=yF (n:=n) (k:=6) ⋯
  obtain⟨k,hk⟩:∃k,k=11+n % 6:=⟨_,rfl⟩
  have gk:∀e:En,bL e (.d (.int 11)) (.d (.int (n % 6)))=some (.d (.int k)):=fun e=>by rw [dm,hk]
  obtain⟨ts,d4,tt,hd4,tl,to⟩:=vR d3 12 k hd3 ⋯ ⋯ ↥0 ↥0
  have gok:(aZ.mk 12 ts (List.replicate 12 20) 40).Ok:=⟨(by show(0:Int)≤12;decide),(by show(12:Int)≤12;decide),to,by show ts.length≤16;lia,by simp,(fun p hp=>by have:=List.eq_of_mem_replicate hp;lia),(by show(0:Int)≤40;decide),(by show(40:Int)≤40;decide)⟩
  obtain⟨d5,T,S,tg,hd5,_,_⟩:=xo gok (most:=5) hd4 ⋯ ⋯
  have r1:=rj gok (by show 10 < ts.length;lia) (d:=.tuple (T.map h_))
  have r2:=rj gok (by show 10 < ts.length;lia) (d:=.tuple [])
  have gr:∀(e:En),bQ e (.d (.tuple [.int 20])) (.d (.int 12))=some (.d (.tuple (List.replicate 12 (.int 20)))):=fun e=>vd (n:=12) ⋯ ⋯
  have eW:aI ⟨12,ts,List.replicate 12 20,40⟩=.tuple [.int 12,.tuple (ts.map be),.tuple (List.replicate 12 (.int 20)),.int 40]:=by
    show PyData.tuple [.int 12,.tuple (ts.map be),.tuple ((List.replicate 12 (20:Int)).map .int),.int 40]=_
    rw [List.map_replicate]
  rw [eW] at tg r1 r2
  have z1':=j0 C3 (bs:=[]) rfl
  have o1:Bt 300 (1:Int):=Bt.mono (m:=1) (by unfold Bt;decide) ⋯
  have o0:Bt 300 (0:Int):=Bt.mono (m:=1) (by unfold Bt;decide) ⋯
  have z3:=sO (Sz.fr (f:=((1,1):Fr)) o1 o1 ⋯ ⋯) ⋯ ⋯
  have y3:=sO (Sz.fr (f:=((0,1):Fr)) o0 o1 ⋯ ⋯) ⋯ ⋯
  have y1':=mh C3 ⋯ (T:=[]) (S:=fun _=>([],[])) (fun i nd h=>by cases h)
  have ez:bZ (0,1) ((bC (aZ.mk 0 [] [] 0).ties.length).map (mi ⟨0,[],[],0⟩ []))=((0,1):Fr):=rfl
  rw [ez] at y1'
  have e01:dF ((0,1):Fr)=.tuple [.int 0,.int 1]:=rfl
  have e11:dF (pX (1,1) (aZ.mk 0 [] [] 0).ties [])=.tuple [.int 1,.int 1]:=rfl
  have e12:dF ((1,1):Fr)=.tuple [.int 1,.int 1]:=rfl
  have eE:aI ⟨0,[],[],0⟩=.tuple [.int 0,.tuple [],.tuple [],.int 0]:=rfl
  rw [eE,e11] at z1'
  rw [e12] at z3
  rw [eE,e01] at y1'
  rw [e01] at y3
  simp only [List.map_nil] at z1' y1'
  generalize List.replicate 12 (PyData.int 20)=RR at*
  generalize n % 6=n6 at*
  generalize ts.map be=TT at*
  generalize T.map h_=GG at*
  simp? [oY,C1,td,hfor,t3,g6,gk,tt,gr,tg,r1,r2,z1',z3,y1',y3,js,dz]
theorem Ba{P:List Value→Prop}(h:∀a0,P [a0]):∀us:List Value,us.length=1→P us:=fun us e=>match us,e with | [a0],_=>h a0
theorem nU{P:List Value→Prop}(h:∀a0 a1,P [a0,a1]):∀us:List Value,us.length=2→P us:=fun us e=>match us,e with | [a0,a1],_=>h a0 a1
theorem D4{P:List Value→Prop}(h:∀a0 a1 a2,P [a0,a1,a2]):∀us:List Value,us.length=3→P us:=fun us e=>match us,e with | [a0,a1,a2],_=>h a0 a1 a2
theorem Io{P:List Value→Prop}(h:∀a0 a1 a2 a3,P [a0,a1,a2,a3]):∀us:List Value,us.length=4→P us:=fun us e=>match us,e with | [a0,a1,a2,a3],_=>h a0 a1 a2 a3
theorem hm{w:World}{h:Heap}{mg:Str→Option Value}{n:Str}{s:Stmt}{a:Addr}{ps:List Str}(c:Addr)(d p:Value)(X:(kK w.params).In h)(G:h.Ns mainGlobals mg)
    (e:(W.nsIn (kK w.params) mainGlobals n,List.lookup a (kK w.params),W.codeIn (kK w.params) (.ref c) n,W.keepIn (kK w.params) (.ref a))=(some (some (.ref a)),some (kF n s d p c),true,true))
    (b:∀(kV doc pm:Value) (an:Option Addr) (cdv ct:Value) (us:List Value),us.length=ps.length→bindArgs (W.fnOf n n (ec s) (cw s) (am s) .none kV doc pm an cdv ct) ⟨us,[]⟩=pure (ps.zip us)):
    aT (kK w.params) mg n s a (W.fnOf n n (ec s) (cw s) (am s) .none .none d p none (.ref c) .none) ps:=DQ X G (congrArg (·.1) e) (congrArg (·.2.1) e) (congrArg (·.2.2.1) e) (congrArg (·.2.2.2) e) b
theorem all_mk{l:W.OpenLaw}{w:World}{h:Heap}{mg:Str→Option Value}{fa:Addr}(X:(kK w.params).In h)(G:h.Ns mainGlobals mg)(hfa:mg "law"=some (.ref fa)):
    ∃fd:FuncData,(∀(s:Shared) (v:Value),BindsTo s fd ⟨[v],[]⟩ [("_law_script",v)])∧∀base:Heap,(kK w.params).In base→base.Ns mainGlobals mg→au l.prog w (kK w.params) mg base bj 8 fa fd ["_law_script"] (bo (kK w.params) 1 oY):=by
  have e:=hfa.symm.trans (W.mg_of X G (show W.nsIn (kK w.params) mainGlobals "law"=some (some (.ref 354)) by kernel_rfl))
  cases e
  have T:hX mg:=⟨W.mg_none_of X G (show W.nsIn (kK w.params) mainGlobals "abs"=some none by kernel_rfl),W.mg_none_of X G (show W.nsIn (kK w.params) mainGlobals "len"=some none by kernel_rfl),W.mg_none_of X G (show W.nsIn (kK w.params) mainGlobals "min"=some none by kernel_rfl),W.mg_none_of X G (show W.nsIn (kK w.params) mainGlobals "max"=some none by kernel_rfl),W.mg_none_of X G (show W.nsIn (kK w.params) mainGlobals "range"=some none by kernel_rfl),W.mg_none_of X G (show W.nsIn (kK w.params) mainGlobals "repr"=some none by kernel_rfl),W.mg_none_of X G (show W.nsIn (kK w.params) mainGlobals "tuple"=some none by kernel_rfl),W.mg_none_of X G (show W.nsIn (kK w.params) mainGlobals "int"=some none by kernel_rfl),W.mg_none_of X G (show W.nsIn (kK w.params) mainGlobals "sorted"=some none by kernel_rfl),W.mg_none_of X G (show W.nsIn (kK w.params) mainGlobals "zip"=some none by kernel_rfl),W.mg_none_of X G (show W.nsIn (kK w.params) mainGlobals "enumerate"=some none by kernel_rfl),W.mg_none_of X G (show W.nsIn (kK w.params) mainGlobals "isinstance"=some none by kernel_rfl),W.mg_none_of X G (show W.nsIn (kK w.params) mainGlobals "sum"=some none by kernel_rfl),W.mg_none_of X G (show W.nsIn (kK w.params) mainGlobals "ValueError"=some none by kernel_rfl)⟩
  have IH:aT (kK w.params) mg "refuse_above" bP 82 _ ["many","most"]:=hm 81 (.none) HU X G ↥6 fun _ _ _ _ _ _=>nU fun _ _=>rfl
  have IT:aT (kK w.params) mg "common_divisor" cj 91 _ ["one","other"]:=hm 90 (.none) yG X G ↥6 fun _ _ _ _ _ _=>nU fun _ _=>rfl
  have I0:aT (kK w.params) mg "lowest" g_ 98 _ ["top","bottom"]:=hm 97 (.none) yG X G ↥6 fun _ _ _ _ _ _=>nU fun _ _=>rfl
  have KP:aT (kK w.params) mg "plus" pL 105 _ ["one","other"]:=hm 104 (.none) yG X G ↥6 fun _ _ _ _ _ _=>nU fun _ _=>rfl
  have Jt:aT (kK w.params) mg "times" jj 112 _ ["one","other"]:=hm 111 (.none) yG X G ↥6 fun _ _ _ _ _ _=>nU fun _ _=>rfl
  have JG:aT (kK w.params) mg "one_less" hJ 119 _ ["chance"]:=hm 118 (.none) yG X G ↥6 fun _ _ _ _ _ _=>Ba fun _=>rfl
  have JZ:aT (kK w.params) mg "total" kj 126 _ ["row"]:=hm 125 (.none) yG X G ↥6 fun _ _ _ _ _ _=>Ba fun _=>rfl
  have JN:aT (kK w.params) mg "kept_of" gB 131 _ ["run"]:=hm 130 (.none) G2 X G ↥6 fun _ _ _ _ _ _=>Ba fun _=>rfl
  have IV:aT (kK w.params) mg "worth_kept" cB 136 _ ["web","run"]:=hm 135 (.none) G2 X G ↥6 fun _ _ _ _ _ _=>nU fun _ _=>rfl
  have Jh:aT (kK w.params) mg "run_tree" eO 143 _ ["web","tree","answers"]:=hm 142 (.none) HV X G ↥6 fun _ _ _ _ _ _=>D4 fun _ _ _=>rfl
  have Ju:aT (kK w.params) mg "chance_by" fM 150 _ ["chances","answers"]:=hm 149 (.none) C9 X G ↥6 fun _ _ _ _ _ _=>nU fun _ _=>rfl
  have II:aT (kK w.params) mg "chance_of" cu 155 _ ["web","answers"]:=hm 154 (.none) C9 X G ↥6 fun _ _ _ _ _ _=>nU fun _ _=>rfl
  have IQ:aT (kK w.params) mg "all_answers" bY 160 _ ["many"]:=hm 159 (.none) C9 X G ↥6 fun _ _ _ _ _ _=>Ba fun _=>rfl
  have IG:aT (kK w.params) mg "by_answers" bV 165 _ ["web","tree"]:=hm 164 (.none) C9 X G ↥6 fun _ _ _ _ _ _=>nU fun _ _=>rfl
  have Kf:aT (kK w.params) mg "_law_mixed" l7 172 _ ["_law_cell","_law_k"]:=hm 171 (.none) el X G ↥6 fun _ _ _ _ _ _=>nU fun _ _=>rfl
  have Kx:aT (kK w.params) mg "_law_draws" l6 179 _ ["_law_script"]:=hm 178 (.none) el X G ↥6 fun _ _ _ _ _ _=>Ba fun _=>rfl
  have IE:aT (kK w.params) mg "_law_next" f9 186 _ ["_law_drawn"]:=hm 185 (.none) el X G ↥6 fun _ _ _ _ _ _=>Ba fun _=>rfl
  have K_:aT (kK w.params) mg "_law_gcd" uh 193 _ ["_law_one","_law_other"]:=hm 192 (.none) el X G ↥6 fun _ _ _ _ _ _=>nU fun _ _=>rfl
  have Kg:aT (kK w.params) mg "_law_low" pF 200 _ ["_law_top","_law_bottom"]:=hm 199 (.none) el X G ↥6 fun _ _ _ _ _ _=>nU fun _ _=>rfl
  have KU:aT (kK w.params) mg "_law_plus" pG 207 _ ["_law_one","_law_other"]:=hm 206 (.none) el X G ↥6 fun _ _ _ _ _ _=>nU fun _ _=>rfl
  have JL:aT (kK w.params) mg "_law_times" kh 214 _ ["_law_one","_law_other"]:=hm 213 (.none) el X G ↥6 fun _ _ _ _ _ _=>nU fun _ _=>rfl
  have KS:aT (kK w.params) mg "_law_rest" pH 221 _ ["_law_one"]:=hm 220 (.none) el X G ↥6 fun _ _ _ _ _ _=>Ba fun _=>rfl
  have Kn:aT (kK w.params) mg "_law_same" pI 228 _ ["_law_found","_law_due"]:=hm 227 (.none) el X G ↥6 fun _ _ _ _ _ _=>nU fun _ _=>rfl
  have Jv:aT (kK w.params) mg "_law_chance" iY 235 _ ["_law_number","_law_kind"]:=hm 234 (.none) el X G ↥6 fun _ _ _ _ _ _=>nU fun _ _=>rfl
  have Kw:aT (kK w.params) mg "_law_worth" l8 242 _ ["_law_number","_law_kind"]:=hm 241 (.none) el X G ↥6 fun _ _ _ _ _ _=>nU fun _ _=>rfl
  have JJ:aT (kK w.params) mg "_law_ties" k9 249 _ ["_law_drawn","_law_things","_law_many"]:=hm 248 (.none) el X G ↥6 fun _ _ _ _ _ _=>D4 fun _ _ _=>rfl
  have La:aT (kK w.params) mg "_law_web" uj 256 _ ["_law_drawn","_law_most","_law_ties_here"]:=hm 255 (.none) el X G ↥6 fun _ _ _ _ _ _=>D4 fun _ _ _=>rfl
  have JR:aT (kK w.params) mg "_law_asks_of" gA 261 _ ["_law_web_here","_law_asked","_law_thing"]:=hm 260 (.none) el X G ↥6 fun _ _ _ _ _ _=>D4 fun _ _ _=>rfl
  have K':aT (kK w.params) mg "_law_may" ui 268 _ ["_law_web_here","_law_stand","_law_tie"]:=hm 267 (.none) el X G ↥6 fun _ _ _ _ _ _=>D4 fun _ _ _=>rfl
  have JT:aT (kK w.params) mg "_law_behind" jT 275 _ ["_law_web_here","_law_stand","_law_tie","_law_truth"]:=hm 274 (.none) el X G ↥6 fun _ _ _ _ _ _=>Io fun _ _ _ _=>rfl
  have JS:aT (kK w.params) mg "_law_askable" gy 280 _ ["_law_web_here","_law_stand"]:=hm 279 (.none) el X G ↥6 fun _ _ _ _ _ _=>nU fun _ _=>rfl
  have JM:aT (kK w.params) mg "_law_grown" ji 285 _ ["_law_drawn","_law_web_here","_law_most"]:=hm 284 (.none) el X G ↥6 fun _ _ _ _ _ _=>D4 fun _ _ _=>rfl
  have JD:aT (kK w.params) mg "_law_answers" iX 292 _ ["_law_drawn","_law_many"]:=hm 291 (.none) el X G ↥6 fun _ _ _ _ _ _=>nU fun _ _=>rfl
  have Jg:aT (kK w.params) mg "_law_all_answers" bX 297 _ ["_law_many"]:=hm 296 (.none) el X G ↥6 fun _ _ _ _ _ _=>Ba fun _=>rfl
  have IU:aT (kK w.params) mg "_law_chance_of" dQ 304 _ ["_law_web_here","_law_answers_here"]:=hm 303 (.none) el X G ↥6 fun _ _ _ _ _ _=>nU fun _ _=>rfl
  have JI:aT (kK w.params) mg "_law_run_tree" gZ 311 _ ["_law_tree_here","_law_answers_here"]:=hm 310 (.none) el X G ↥6 fun _ _ _ _ _ _=>nU fun _ _=>rfl
  have KW:aT (kK w.params) mg "_law_kept" mP 316 _ ["_law_web_here","_law_run"]:=hm 315 (.none) el X G ↥6 fun _ _ _ _ _ _=>nU fun _ _=>rfl
  have Jo:aT (kK w.params) mg "_law_tree_worth" eD 323 _ ["_law_web_here","_law_tree_here"]:=hm 322 (.none) el X G ↥6 fun _ _ _ _ _ _=>nU fun _ _=>rfl
  have Jm:aT (kK w.params) mg "_law_renumbered" cA 328 _ ["_law_drawn","_law_tree_here"]:=hm 327 (.none) el X G ↥6 fun _ _ _ _ _ _=>nU fun _ _=>rfl
  have KY:aT (kK w.params) mg "_law_tree" pJ 335 _ ["_law_drawn","_law_web_here","_law_great"]:=hm 334 (.none) el X G ↥6 fun _ _ _ _ _ _=>D4 fun _ _ _=>rfl
  have Lb:aT (kK w.params) mg "_law_ten" qU 340 _ ["_law_drawn"]:=hm 339 (.none) el X G ↥6 fun _ _ _ _ _ _=>Ba fun _=>rfl
  have JE:aT (kK w.params) mg "_law_refused" iZ 347 _ ["_law_web_here","_law_tree_here"]:=hm 346 (.none) el X G ↥6 fun _ _ _ _ _ _=>nU fun _ _=>rfl
  have LB:aT (kK w.params) mg "law" pK 354 _ ["_law_script"]:=hm 353 (.none) el X G ↥6 fun _ _ _ _ _ _=>Ba fun _=>rfl
  have lG_83:List.lookup 83 (kK w.params)=some (kT [.int (0) 281,.int (1) 282] 0):=by kernel_rfl
  have m_ZERO:=W.mg_of X G (show W.nsIn (kK w.params) mainGlobals "ZERO"=some (some (.ref 83)) by kernel_rfl)
  have c_ZERO:∀F,DA (kK w.params) F (.tuple [.int (0),.int (1)]) (.ref 83):=fun F=>by simp only [DA,aR];exact⟨83,[V.int (0),V.int (1)],rfl,.inr ⟨_,_,_,lG_83,rfl,rfl,rfl,(by show 2≤sizeLine;decide),(.cons ⟨_,rfl⟩ (.cons ⟨_,rfl⟩ .nil))⟩,⟨_,_,rfl,rfl,⟨_,_,rfl,rfl,rfl⟩⟩⟩
  have lG_84:List.lookup 84 (kK w.params)=some (kT [.int (1) 284,.int (1) 285] 0):=by kernel_rfl
  have m_ONE:=W.mg_of X G (show W.nsIn (kK w.params) mainGlobals "ONE"=some (some (.ref 84)) by kernel_rfl)
  have c_ONE:∀F,DA (kK w.params) F (.tuple [.int (1),.int (1)]) (.ref 84):=fun F=>by simp only [DA,aR];exact⟨84,[V.int (1),V.int (1)],rfl,.inr ⟨_,_,_,lG_84,rfl,rfl,rfl,(by show 2≤sizeLine;decide),(.cons ⟨_,rfl⟩ (.cons ⟨_,rfl⟩ .nil))⟩,⟨_,_,rfl,rfl,⟨_,_,rfl,rfl,rfl⟩⟩⟩
  have m_END:=W.mg_of X G (show W.nsIn (kK w.params) mainGlobals "END"=some (some (.int (-1) 353)) by kernel_rfl)
  have m_MOST_TIES_BY_ANSWERS:=W.mg_of X G (show W.nsIn (kK w.params) mainGlobals "MOST_TIES_BY_ANSWERS"=some (some (.int (10) 371)) by kernel_rfl)
  have m_NoRise:=W.mg_of X G (show W.nsIn (kK w.params) mainGlobals "NoRise"=some (some (.ref 49)) by kernel_rfl)
  have m_NoText:=W.mg_of X G (show W.nsIn (kK w.params) mainGlobals "NoText"=some (some (.ref 73)) by kernel_rfl)
  have m_NotTwoSided:=W.mg_of X G (show W.nsIn (kK w.params) mainGlobals "NotTwoSided"=some (some (.ref 61)) by kernel_rfl)
  have m_PairsError:=W.mg_of X G (show W.nsIn (kK w.params) mainGlobals "PairsError"=some (some (.ref 24)) by kernel_rfl)
  have m_TooMany:=W.mg_of X G (show W.nsIn (kK w.params) mainGlobals "TooMany"=some (some (.ref 37)) by kernel_rfl)
  have x_TooMany:W.excIn (kK w.params) 37 yx "ValueError.__new__"=true:=by kernel_rfl
  have Z_TooMany:p4 (kK w.params) 37:=⟨by kernel_rfl,by kernel_rfl,by kernel_rfl,by kernel_rfl,by kernel_rfl,by kernel_rfl⟩
  have k_TooMany:W.kitOne (kK w.params) (.ref 37) (.ref 37)=some true:=by kernel_rfl
  have k_t:W.kitAny (kK w.params) (.ref 37) [.ref 49,.ref 73,.ref 61]=some false:=by kernel_rfl
  have k_ValueError:W.kitOne (kK w.params) (.ref 37) (.type "ValueError")=some true:=by kernel_rfl
  have x2_PairsError:W.exmOne (kK w.params) (.ref 37) (.ref 24)=some true:=by kernel_rfl
  refine⟨W.fnOf "law" "law" (ec pK) (cw pK) (am pK) .none .none (.none) el none (.ref 353) .none,fun s v=>.of_eq rfl,fun base _ _=>?_⟩
  have Jp:=nV (P:=l.prog) (w:=w) (base:=base) IH T
  have R_refuse_above:=mH (P:=l.prog) (w:=w) (base:=base) IH T m_TooMany x_TooMany
  have Je:=lS (P:=l.prog) (w:=w) (base:=base) IT T
  have Jf:=x8 (P:=l.prog) (w:=w) (base:=base) I0 T IT Je
  have KZ:=BM (P:=l.prog) (w:=w) (base:=base) KP T I0 Jf
  have JB:=zM (P:=l.prog) (w:=w) (base:=base) Jt T I0 Jf
  have JY:=ua (P:=l.prog) (w:=w) (base:=base) JG T I0 Jf
  have Ke:=zN (P:=l.prog) (w:=w) (base:=base) JZ T KP KZ m_ZERO c_ZERO
  have J':=vz (P:=l.prog) (w:=w) (base:=base) JN T
  have Jb:=qd (P:=l.prog) (w:=w) (base:=base) IV T JN J'
  have Js:=uc (P:=l.prog) (w:=w) (base:=base) Jh T m_END
  have JK:=sr (P:=l.prog) (w:=w) (base:=base) Ju T Jt JB JG JY m_ONE c_ONE
  have IJ:=su (P:=l.prog) (w:=w) (base:=base) II T Ju JK
  have IY:=pj (P:=l.prog) (w:=w) (base:=base) IQ T
  have Jn:=qc (P:=l.prog) (w:=w) (base:=base) IG T IH Jp JZ Ke Jt JB II IJ IQ IY IV Jb Jh Js m_MOST_TIES_BY_ANSWERS
  have R_by_answers:=pk (P:=l.prog) (w:=w) (base:=base) IG T JZ Ke Jt JB II IJ IQ IY IV Jb Jh Js m_MOST_TIES_BY_ANSWERS IH R_refuse_above
  have Kv:=zJ (P:=l.prog) (w:=w) (base:=base) Kf T
  have KO:=zH (P:=l.prog) (w:=w) (base:=base) Kx T Kf Kv
  have IF:=BG (P:=l.prog) (w:=w) (base:=base) IE T
  have Lo:=D9 (P:=l.prog) (w:=w) (base:=base) K_ T
  have Ko:=D_ (P:=l.prog) (w:=w) (base:=base) Kg T K_ Lo
  have K5:=BH (P:=l.prog) (w:=w) (base:=base) KU T Kg Ko
  have J0:=zK (P:=l.prog) (w:=w) (base:=base) JL T Kg Ko
  have K4:=BI (P:=l.prog) (w:=w) (base:=base) KS T
  have Ku:=BJ (P:=l.prog) (w:=w) (base:=base) Kn T
  have JH:=xZ (P:=l.prog) (w:=w) (base:=base) Jv T Kg Ko
  have KN:=zL (P:=l.prog) (w:=w) (base:=base) Kw T
  have JQ:=BK (P:=l.prog) (w:=w) (base:=base) JJ T IE IF Jv JH Kw KN
  have Lq:=Eb (P:=l.prog) (w:=w) (base:=base) La T JJ JQ IE IF
  have Kh:=vx (P:=l.prog) (w:=w) (base:=base) JR T
  have Lp:=D' (P:=l.prog) (w:=w) (base:=base) K' T JR Kh
  have J_:=xY (P:=l.prog) (w:=w) (base:=base) JT T
  have Ki:=vw (P:=l.prog) (w:=w) (base:=base) JS T K' Lp
  have J3:=zI (P:=l.prog) (w:=w) (base:=base) JM T JS Ki IE IF JT J_
  have JW:=vt (P:=l.prog) (w:=w) (base:=base) JD T IE IF
  have Jw:=ph (P:=l.prog) (w:=w) (base:=base) Jg T
  have IZ:=sk (P:=l.prog) (w:=w) (base:=base) IU T JL J0 KS K4
  have J1:=t_ (P:=l.prog) (w:=w) (base:=base) JI T
  have K6:=BF (P:=l.prog) (w:=w) (base:=base) KW T
  have JF:=qb (P:=l.prog) (w:=w) (base:=base) Jo T Jg Jw KU K5 KW K6 JL J0 JI J1 IU IZ
  have JC:=qa (P:=l.prog) (w:=w) (base:=base) Jm T IE IF
  have K9:=BL (P:=l.prog) (w:=w) (base:=base) KY T Jm JC JM J3 IE IF
  have Lr:=Ea (P:=l.prog) (w:=w) (base:=base) Lb T JJ JQ Jv JH IE IF
  have JX:=vy (P:=l.prog) (w:=w) (base:=base) JE T IG R_by_answers m_PairsError x2_PairsError Z_TooMany m_TooMany m_NoRise m_NoText m_NotTwoSided k_TooMany k_t k_ValueError
  have LC:=Ec (P:=l.prog) (w:=w) (base:=base) LB T Kx KO La Lq KY K9 JJ JQ Kn Ku JD JW Lb Lr JE JX II IJ IG Jn Jo JF JM J3 IU IZ IE IF
  exact LC
def Gz(K:W.Frag):Sp:=fun vs H Q _=>∃(a:Addr) (ns:List Int),vs=[.ref a]∧dS K H a (ns.map V.int)∧ns.length≤63∧∀H',Q (.bl true) H'
theorem D2{K:W.Frag}{vs:List V}{H:Hp}{Q:VK}{E:XK}(h:Gz K vs H Q E):bo K 1 oY vs H Q E:=by
  obtain⟨a,ns,rfl,hS,hl,q⟩:=h
  obtain⟨as',hm⟩:=zy ns hl
  exact vL hS hm q
theorem walk{l:W.OpenLaw}{q:Program}{loose:List Str}{XP:(Str→Option Value)→Heap→Prop}{YP:World→Heap→Prop}{d:DefRec}{K:Params→W.Frag}(hn:l.most=some 63)(hdf:d.params.defaults=[])
    (hY:∀(w:World) (h:Heap),YP w h→(K w.params).In h)
    (F:∀(w:World) (mg:Str→Option Value) (fa:Addr) (h:Heap),(K w.params).In h→h.Ns mainGlobals mg→mg d.name=some (.ref fa)→
      ∃fd:FuncData,(∀(s:Shared) (u:Value),BindsTo s fd ⟨[u],[]⟩ [("_law_script",u)])∧∀base:Heap,(K w.params).In base→base.Ns mainGlobals mg→au l.prog w (K w.params) mg base bj 8 fa fd ["_law_script"] (bo (K w.params) 1 oY)):
    W.WalkO q loose XP YP l.row.toRowW d [] (fun f vs=>PySem.call f vs):=
  L2.walk_of (n:=63) (k:=8) (x:="_law_script") (CX:=fun _=>bj) (sp:=fun w=>bo (K w.params) 1 oY) hn ⋯ hdf ⟨rfl,by decide,by decide,rfl⟩ hY F (fun _ _ a ns hl _ hS=>D2 ⟨a,ns,rfl,hS,hl,fun _=>rfl⟩) fun _ _ _ _ _ z=>z
end V21
open PySem PySem.W PyProof.Rows
set_option maxRecDepth 100000 in
set_option maxHeartbeats 0 in
theorem PySem.Challenge.cw_askedpairs_k21_by_all_answers_holds : PySem.Challenge.rw_askedpairs_k21_by_all_answers.Holds := by
  w_on;o_law
  refine holds_open (q:=V21.kq) (loose:=[]) (Xt:=fun s=>xlAt V21.kq [] s&&recOk (RowW.records (OpenRow.toRowW (OpenLaw.row PySem.Challenge.rw_askedpairs_k21_by_all_answers))) s) (XP:=XL V21.kq []) (Yf:=Hook.obs V21.kH) (Ya:=Hook.val V21.kH) (YP:=Hook.says V21.kH) (N:=5022) V21.left (Hook.of V21.kH) (Hook.keeps V21.kH) (fun s e=>xl_of s (Bool.and_eq_true_iff.mp e).1) XL.keeps ∅ ∅ ∅ (fun s e=>recFacts_of (Bool.and_eq_true_iff.mp e).2) ∅ (by assumption) ↥2 ⟨rfl,rfl,rfl,rfl,rfl,by decide+kernel⟩ ?hw ?hc
  case hw=>w_witness2
  case hc=>exact V21.walk (l:=PySem.Challenge.rw_askedpairs_k21_by_all_answers) rfl rfl (fun w h Y=>kIn_of Y) (fun w mg fa h KX G hmg=>V21.all_mk KX G hmg)
