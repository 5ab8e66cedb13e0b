import PyProof.Rows.All
import KE.KRevSl
import KE.KItem
import KE.KFromBytes
import KE.KIntText
import KE.KIsAll
import KE.KRevIter
import PySem.Challenge.RW_askedpairs_k92_no_words
open PySem renaming Addr→xM,Value→MG,Shared→PB,PyData→PD,Expr→PH,World→PJ,Program→PK,Heap→PL,wpAny→PM,Stmt→PN,Around→PP,model→PQ,wpAny_bind→PR,starEach→PU,eval→PV,sizeLine→PY,FuncData→PZ,wpAny_pure→Qa,backTo→Qf,Scope→Qm,mainGlobals→Qn,cellsFrom→Qo,binaryOp→Qt,assignEach→QA,compareOp→QB,sizeLine_eq→QC,importedModules→QK,Keyword→QQ,NameKind→QR,wpAny_mono→Re,behindInMarks→Rl,holding→Rm,bootBuiltins→Rt,attributeBase→Rw,wpAny_holding→Ry,backToKw→Rz,keywordEach→RB,call_meets→RD,standAt→RH,swapsWith→RW,DictEntry→Sj,wpAny_newObj_type→Sn,wpAny_passesOwn→So,sliceBounds→Su,wpAny_loadPart'→Sy,swapsWithSole→SK,swappedStores→SL,foldedSetIterable→SN,typeIs_str→SR,wpAny_truthy_bool→SZ,wpAny_Call_Name_kw→Tc,mem_of_lookup→Td,typeIs_int→Tf,intText?→Tq,wpAny_execs_nil→Tu,letOwnedTupleGo→Tv
open PySem.Str renaming ofString→Pz,join→Qx,empty→RJ,cps_append→Ue
open PySem.W renaming Frag→PF,openSeen→QT,fnOf→Rb,findIn→Rg,nsIn→Rx,mg_of→RM,boot_heap→RT,emptyDict→RX,instObj→RZ,keepIn→Sa,kia_one→SD,isStarred→SX,codeIn→Te,lookIn→Tw,plainGet→Tz,callWith_K→TC,methodObj→Uj,hasDictIn→Um,plainGet_of→Uo
open List renaming replicate→PX,length_map→Qh,size_toArray→Qj,map_cons→Qk,getElem?_set_ne→Ql,all_eq_true→Qp,getElem?_map→Qu,map_nil→Qv,lookup_cons→Qw,mem_cons→Qz,range→QM,lookup→QP,nil_append→QS,mem_append→QU,mem_cons_of_mem→QV,not_mem_nil→QZ,Nodup→Ra,append_nil→Rh,getElem?_eq_getElem→Rk,length_cons→Ro,map_map→Rq,getElem?_set_self→Ru,getElem?_append_left→RC,mem_cons_self→RG,mem_append_right→RI,mem_singleton→RP,cons_append→RQ,mem_filter→RV,nodup_cons→Sd,length_append→Se,length_set→Sf,replicate_succ→Sg,ext_getElem?→Si,mem_range→Sl,map→SA,mem_map→SH,foldl→SU,getElem?_of_mem→SY,getElem_mem→Th,any_cons→Tj,lookup_append→Tn,getElem?_set→To,mem_of_mem_tail→Tr,mem_filterMap→Tt,any_eq_false→Tx,flatten_cons→TJ,drop_eq_getElem_cons→TZ,findIdx?_eq_none_iff→Ua,filter_map→Ub,drop_zero→Ud,filterMap_cons→Uk,getElem?_replicate→Uq,length_replicate→Ur,length_singleton→Uu,take_of_length_le→Uw,getD_eq_getElem?_getD→Ux,drop_eq_nil_of_le→UB,filter_eq_self→UG,dropLast_eq_take→UH,findIdx?_eq_some_iff_getElem→UP
open Option renaming bind_some→Qb,map_some→Qy,getD_some→TV,map_eq_some_iff→Ui
open Nat renaming le_refl→Qc,le_trans→Qq,lt_of_lt_of_le→QG,ne_of_lt→QH,lt_irrefl→RU,zero_le→Sb,le_of_lt→Sm,pow_le_pow_right→Tg,zero_add→Tp,lt_of_le_of_lt→Uv,mul_le_mul_right→Uy
open Int renaming gcd→Qd,emod_nonneg→SE,emod_lt_of_pos→SF,zero_add→Ts,fdiv_mul_cancel→TM,lt_of_lt_of_le→UF
open PySem.PyData renaming strOk→Qe,canLay0→Qr,depth→QE,canLayAll0→QW,eqv→QY,depthAll→RN,shownAll→TN,showableAll→TU
open PySem.Heap renaming lt_size→Qg,get?_push_of_some→Qs,get?_push_size→QL,SameBut→SJ,size_push→Ta
open PySem.Challenge renaming pw_askedpairs_k92_no_words→Qi,rw_askedpairs_k92_no_words→Uh
open Bool renaming and_eq_true→QD,false_ne_true→Sr,false_eq_true→SW,or_false→TH,eq_iff_iff→TX,or_eq_false_iff→UC,and_eq_true_iff→UJ
open PySem.SeqAt renaming shaped→QF,canLay_of_shaped→TY
open PySem.Txt renaming slice→QI,mul→QJ,split→Rr,isdecimal→RY
open Ne renaming symm→QN
open Option.some renaming inj→QO,injEq→Sk
open PySem.NameKind renaming free→QX,cell→Sx
open False renaming elim→Rf
open PyProof.Rows renaming kindOf→Rj,IntsAre→RK,slot_tuple_getitem→Ss,callWith_type1→UK
open PySem.PassesOwn renaming never→RF
open PySem.Obj renaming mapSeq→RL
open True renaming intro→SO
open PySem.Builtin.Tuple renaming tupleExact→SQ,tupleTooMany→UA,tupleItemsOf→UM
open ForInStep renaming yield→SV
open PySem.F renaming slot_tuple_mul→Ti,slot_int_rmul→TK,slot_str_split→Uc,plainAttrs_str→UD
open PySem.Around renaming under→TB
open PySem.Builtin.Slice renaming slicePlaces→TF,sliceAdjust→Us,sliceApplied→UL
open Array renaming toList_append→Ug,length_toList→Ul
open PySem.Builtin.List renaming listTooLong→Ut,listExtendWith→UN
open PySem.AutoSeq1 renaming idx_int→Uz
open PySem.Builtin.Str renaming occurrences→UE
open PySem.NumText renaming digitsVal→UI,AllDigits→UQ
open PySem.Builtin.SmallTypes renaming nextOf→UO
set_option Elab.async false
set_option linter.all false
set_option maxRecDepth 100000
namespace L2
open PySem PySem.Spec PyProof.Rows
def eg(s:PN):Arguments:=match s with
  | .FunctionDef _ a _ _ _ _ _ _ _ _=>a
  | _=>{posonlyargs:=[],args:=[],vararg:=none,kwonlyargs:=[],kw_defaults:=[],kwarg:=none,defaults:=[]}
def cO(s:PN):List PN:=match s with
  | .FunctionDef _ _ b _ _ _ _ _ _ _=>b
  | _=>[]
def ar(s:PN):Qm:=match s with
  | .FunctionDef _ _ _ _ _ _ sc _ _ _=>sc
  | _=>{kind:=.function,names:=[],isGenerator:=false,isCoroutine:=false}
end L2
namespace V92
open PySem PySem.Spec PyProof.Rows L2
def top(i:Nat):PN:=Qi.main.body.getD i (.Pass ⟨0,0,0,0⟩)
abbrev dA:PN:=top 21
abbrev gC:PN:=top 22
abbrev cI:PN:=top 23
abbrev ik:PN:=top 24
abbrev dz:PN:=top 25
abbrev gD:PN:=top 39
abbrev fR:PN:=top 41
abbrev ij:PN:=top 43
abbrev fx:PN:=top 44
abbrev jj:PN:=top 46
abbrev cJ:PN:=top 57
abbrev iF:PN:=top 59
abbrev gB:PN:=top 62
abbrev fw:PN:=top 63
abbrev m5:PN:=top 67
abbrev mZ:PN:=top 68
abbrev kJ:PN:=top 69
abbrev vI:PN:=top 70
abbrev vJ:PN:=top 71
abbrev kG:PN:=top 72
abbrev m6:PN:=top 73
abbrev qy:PN:=top 74
abbrev vL:PN:=top 75
abbrev jg:PN:=top 76
abbrev sy:PN:=top 77
abbrev kB:PN:=top 78
abbrev jf:PN:=top 79
abbrev qu:PN:=top 80
abbrev vK:PN:=top 81
abbrev lh:PN:=top 82
abbrev iD:PN:=top 83
abbrev jh:PN:=top 84
abbrev nZ:PN:=top 85
abbrev vH:PN:=top 86
abbrev qx:PN:=top 87
abbrev iE:PN:=top 88
abbrev ji:PN:=top 89
abbrev qB:PN:=top 90
def z8:PN→Nat→PN
  | .ClassDef _ _ _ body _ _ _ _ _ _ _,j=>body.getD j (.Pass ⟨0,0,0,0⟩)
  | s,_=>s
abbrev et:PN:=z8 (top 65) 0
abbrev jO:PN:=z8 (top 65) 1
abbrev eu:PN:=z8 (top 65) 2
abbrev cT:PN:=z8 (top 65) 3
abbrev dP:PN:=z8 (top 65) 4
def kL(n:Str)(bs mro:List MG)(ns:xM)(sub:List MG)(sl:Array (Option MG)):Obj:=⟨.type "type",none,.cls {name:=n,bases:=bs,mro:=mro,ns:=ns,qualname:=n,hasDict:=true,slotNames:=[],subclasses:=sub,abstract:=false,collection:=none,hasDel:=false},sl⟩
def kM(n q:Str)(s:PN)(doc pm:MG)(c:xM):Obj:=⟨.type "function",none,.func (Rb n q (eg s) (cO s) (ar s) .none .none doc pm none (.ref c) .none),#[]⟩
def kD(n q:Str)(a:Nat)(l:List MG)(z:Nat):Obj:=⟨.type "code",none,.fields (Value.str n a::Value.str q (a+1)::Value.str "/claim/cut.py" (a+2)::l++[Value.str "/claim/cut.py" z]).toArray,#[]⟩
def kE(P:Params)(k:Str)(t:Tok)(v:MG):Sj:=⟨PyData.keyHash P k,.str k t,v⟩
def kF(n:Str)(s:PN)(doc pm:MG)(c:xM):Obj:=⟨.type "function",none,.func (Rb n n (eg s) (cO s) (ar s) .none .none doc pm none (.ref c) .none),#[]⟩
def kI(n:Int):MG:=.int n 0
def kC(n:Str)(a:Nat)(l:List MG)(z:Nat):Obj:=⟨.type "code",none,.fields (Value.str n a::Value.str n (a+1)::Value.str "/claim/cut.py" (a+2)::l++[Value.str "/claim/cut.py" z]).toArray,#[]⟩
def kT(l:List MG)(n:Nat):Obj:=⟨.type "tuple",none,.seq l.toArray n,#[]⟩
def Cq:MG:=.str "askedpairs.stands" 337
def Km:MG:=.str "askedpairs.lines" 439
def Kn:MG:=.str "askedpairs.runs" 466
def LS:MG:=.str "askedpairs.tablepaper" 480
def uF:MG:=.str "askedpairs.desk" 555
def hV:MG:=.str "law_askedpairs_k92_no_words" 690
def kK(P:Params):PF:=[(3,⟨.type "dict",none,.dict (List.toArray [kE P "__name__" 165 (.str "law_askedpairs_k92_no_words" 690),kE P "__doc__" 166 (.none),kE P "__package__" 167 (.none),kE P "__loader__" 168 (.builtin "__main__.__loader__#opaque"),kE P "__spec__" 169 (.none),kE P "__annotations__" 170 (.ref 6),kE P "__builtins__" 171 (.ref 4),kE P "__file__" 173 (.str "/claim/cut.py" 172),kE P "__cached__" 174 (.none),kE P "PairsError" 206 (.ref 24),kE P "TooMany" 222 (.ref 37),kE P "refuse_above" 230 (.ref 46),kE P "ZERO" 235 (.ref 47),kE P "common_divisor" 243 (.ref 54),kE P "lowest" 252 (.ref 61),kE P "plus" 260 (.ref 68),kE P "times" 268 (.ref 75),kE P "less" 276 (.ref 82),kE P "one_less" 283 (.ref 89),kE P "total" 292 (.ref 96),kE P "column_to_enter" 300 (.ref 101),kE P "is_sooner" 310 (.ref 108),kE P "row_to_leave" 324 (.ref 115),kE P "exchanged" 330 (.ref 120),kE P "best_levels" 336 (.ref 125),kE P "FIRST_STAND" 339 (.ref 128),kE P "things_of" 347 (.ref 135),kE P "many_asks" 353 (.ref 140),kE P "bears_one_more" 364 (.ref 147),kE P "may_ask" 370 (.ref 152),kE P "stand_behind" 382 (.ref 159),kE P "END" 385 (.int (-1) 384),kE P "gain_of" 394 (.ref 166),kE P "shares_worth" 402 (.ref 171),kE P "MOST_TIES_OF_BOUND" 406 (.int (10) 405),kE P "rows_of" 412 (.ref 176),kE P "limits_of" 423 (.ref 183),kE P "as_prices" 432 (.ref 190),kE P "bound" 438 (.ref 195),kE P "MOST_FIGURES" 442 (.int (4) 441),kE P "number_of" 450 (.ref 202),kE P "fraction_word" 459 (.ref 209),kE P "row_line" 465 (.ref 214),kE P "kept_of" 473 (.ref 219),kE P "worth_kept" 479 (.ref 224),kE P "asks_at" 487 (.ref 229),kE P "both_ways" 498 (.ref 236),kE P "ways_at" 504 (.ref 241),kE P "ways_worth" 510 (.ref 246),kE P "MOST_TIES_OF_TABLE" 514 (.int (7) 513),kE P "layers_by_asks" 520 (.ref 251),kE P "best_ask" 532 (.ref 258),kE P "table_by" 546 (.ref 265),kE P "table_of" 554 (.ref 272),kE P "stand_of_run" 567 (.ref 279),kE P "web_left" 573 (.ref 284),kE P "may_line" 582 (.ref 291),kE P "best_line" 588 (.ref 296),kE P "bound_line" 596 (.ref 303),kE P "kept_line" 605 (.ref 310),kE P "tie_to_ask" 615 (.ref 317),kE P "QUESTIONS" 624 (.ref 318),kE P "Desk" 689 (.ref 363),kE P "_law_mixed" 700 (.ref 374),kE P "_law_draws" 711 (.ref 381),kE P "_law_next" 718 (.ref 388),kE P "_law_gcd" 726 (.ref 395),kE P "_law_low" 735 (.ref 402),kE P "_law_chance" 744 (.ref 409),kE P "_law_worth" 752 (.ref 416),kE P "_law_ties" 771 (.ref 423),kE P "_law_web" 787 (.ref 430),kE P "_law_asks_of" 793 (.ref 435),kE P "_law_may" 805 (.ref 442),kE P "_law_behind" 818 (.ref 449),kE P "_law_askable" 824 (.ref 454),kE P "_law_kept" 830 (.ref 459),kE P "_law_row" 836 (.ref 464),kE P "_law_stood" 847 (.ref 471),kE P "_law_due_word" 853 (.ref 476),kE P "_law_due_ask" 864 (.ref 483),kE P "_law_deed" 874 (.ref 490),kE P "_law_due" 883 (.ref 497),kE P "_law_sign" 891 (.ref 504),kE P "_law_odd_line" 905 (.ref 511),kE P "_law_is_line" 911 (.ref 516),kE P "law" 926 (.ref 523)]) 87,#[]⟩),
  (135,kF "things_of" dA (.none) Cq 134),
  (134,kC "things_of" 340 [kI 75,kI 2,kI 0,kI 0,kI 3,.ref 129,.bool true,kI 181,.ref 130,.none,.ref 131,.ref 132,.ref 133,kI 345,kI 75] 346),
  (140,kF "many_asks" gC (.none) Cq 139),
  (139,kC "many_asks" 348 [kI 77,kI 3,kI 0,kI 0,kI 3,.ref 136,.bool true,kI 181,.ref 137,.none,.none,.none,.ref 138,kI 351,kI 77] 352),
  (147,kF "bears_one_more" cI (.none) Cq 146),
  (146,kC "bears_one_more" 354 [kI 79,kI 3,kI 0,kI 0,kI 3,.ref 141,.bool true,kI 181,.ref 142,.none,.ref 143,.ref 144,.ref 145,kI 362,kI 79] 363),
  (152,kF "may_ask" ik (.none) Cq 151),
  (151,kC "may_ask" 365 [kI 82,kI 3,kI 0,kI 0,kI 3,.ref 148,.bool true,kI 181,.ref 149,.none,.none,.none,.ref 150,kI 368,kI 82] 369),
  (159,kF "stand_behind" dz (.none) Cq 158),
  (158,kC "stand_behind" 371 [kI 87,kI 4,kI 0,kI 0,kI 3,.ref 153,.bool true,kI 181,.ref 154,.none,.ref 155,.ref 156,.ref 157,kI 380,kI 87] 381),
  (202,kF "number_of" gD (.none) Km 201),
  (201,kC "number_of" 443 [kI 122,kI 1,kI 0,kI 0,kI 3,.ref 196,.bool true,kI 181,.ref 197,.none,.ref 198,.ref 199,.ref 200,kI 448,kI 122] 449),
  (214,kF "row_line" fR (.none) Km 213),
  (213,kC "row_line" 460 [kI 130,kI 1,kI 0,kI 0,kI 3,.ref 210,.bool true,kI 181,.ref 211,.none,.none,.none,.ref 212,kI 463,kI 130] 464),
  (219,kF "kept_of" ij (.none) Kn 218),
  (218,kC "kept_of" 468 [kI 133,kI 1,kI 0,kI 0,kI 3,.ref 215,.bool true,kI 181,.ref 216,.none,.none,.none,.ref 217,kI 471,kI 133] 472),
  (224,kF "worth_kept" fx (.none) Kn 223),
  (223,kC "worth_kept" 474 [kI 135,kI 2,kI 0,kI 0,kI 3,.ref 220,.bool true,kI 181,.ref 221,.none,.none,.none,.ref 222,kI 477,kI 135] 478),
  (229,kF "asks_at" jj (.none) LS 228),
  (228,kC "asks_at" 482 [kI 138,kI 2,kI 0,kI 0,kI 3,.ref 225,.bool true,kI 181,.ref 226,.none,.none,.none,.ref 227,kI 485,kI 138] 486),
  (279,kF "stand_of_run" cJ (.none) uF 278),
  (278,kC "stand_of_run" 557 [kI 177,kI 2,kI 0,kI 0,kI 3,.ref 273,.bool true,kI 181,.ref 274,.none,.ref 275,.ref 276,.ref 277,kI 565,kI 177] 566),
  (291,kF "may_line" iF (.none) uF 290),
  (290,kC "may_line" 574 [kI 188,kI 2,kI 0,kI 0,kI 3,.ref 285,.bool true,kI 181,.ref 286,.none,.ref 287,.ref 288,.ref 289,kI 580,kI 188] 581),
  (310,kF "kept_line" gB (.none) uF 309),
  (309,kC "kept_line" 597 [kI 204,kI 2,kI 0,kI 0,kI 3,.ref 304,.bool true,kI 181,.ref 305,.none,.ref 306,.ref 307,.ref 308,kI 603,kI 204] 604),
  (317,kF "tie_to_ask" fw (.none) uF 316),
  (316,kC "tie_to_ask" 606 [kI 207,kI 2,kI 0,kI 0,kI 3,.ref 311,.bool true,kI 181,.ref 312,.none,.ref 313,.ref 314,.ref 315,kI 613,kI 207] 614),
  (374,kF "_law_mixed" m5 (.none) hV 373),
  (373,kC "_law_mixed" 692 [kI 257,kI 2,kI 0,kI 0,kI 3,.ref 368,.bool true,kI 181,.ref 369,.none,.ref 370,.ref 371,.ref 372,kI 698,kI 257] 699),
  (381,kF "_law_draws" mZ (.none) hV 380),
  (380,kC "_law_draws" 701 [kI 260,kI 1,kI 0,kI 0,kI 3,.ref 375,.bool true,kI 181,.ref 376,.none,.ref 377,.ref 378,.ref 379,kI 709,kI 260] 710),
  (388,kF "_law_next" kJ (.none) hV 387),
  (387,kC "_law_next" 712 [kI 273,kI 1,kI 0,kI 0,kI 3,.ref 382,.bool true,kI 181,.ref 383,.none,.ref 384,.ref 385,.ref 386,kI 716,kI 273] 717),
  (395,kF "_law_gcd" vI (.none) hV 394),
  (394,kC "_law_gcd" 719 [kI 277,kI 2,kI 0,kI 0,kI 3,.ref 389,.bool true,kI 181,.ref 390,.none,.ref 391,.ref 392,.ref 393,kI 724,kI 277] 725),
  (402,kF "_law_low" vJ (.none) hV 401),
  (401,kC "_law_low" 727 [kI 281,kI 2,kI 0,kI 0,kI 3,.ref 396,.bool true,kI 181,.ref 397,.none,.ref 398,.ref 399,.ref 400,kI 733,kI 281] 734),
  (409,kF "_law_chance" kG (.none) hV 408),
  (408,kC "_law_chance" 736 [kI 284,kI 2,kI 0,kI 0,kI 3,.ref 403,.bool true,kI 181,.ref 404,.none,.ref 405,.ref 406,.ref 407,kI 742,kI 284] 743),
  (416,kF "_law_worth" m6 (.none) hV 415),
  (415,kC "_law_worth" 745 [kI 294,kI 2,kI 0,kI 0,kI 3,.ref 410,.bool true,kI 181,.ref 411,.none,.ref 412,.ref 413,.ref 414,kI 750,kI 294] 751),
  (423,kF "_law_ties" qy (.none) hV 422),
  (422,kC "_law_ties" 753 [kI 296,kI 3,kI 0,kI 0,kI 3,.ref 417,.bool true,kI 181,.ref 418,.none,.ref 419,.ref 420,.ref 421,kI 769,kI 296] 770),
  (430,kF "_law_web" vL (.none) hV 429),
  (429,kC "_law_web" 772 [kI 311,kI 3,kI 0,kI 0,kI 3,.ref 424,.bool true,kI 181,.ref 425,.none,.ref 426,.ref 427,.ref 428,kI 785,kI 311] 786),
  (435,kF "_law_asks_of" jg (.none) hV 434),
  (434,kC "_law_asks_of" 788 [kI 321,kI 3,kI 0,kI 0,kI 3,.ref 431,.bool true,kI 181,.ref 432,.none,.none,.none,.ref 433,kI 791,kI 321] 792),
  (442,kF "_law_may" sy (.none) hV 441),
  (441,kC "_law_may" 794 [kI 323,kI 3,kI 0,kI 0,kI 3,.ref 436,.bool true,kI 181,.ref 437,.none,.ref 438,.ref 439,.ref 440,kI 803,kI 323] 804),
  (449,kF "_law_behind" kB (.none) hV 448),
  (448,kC "_law_behind" 806 [kI 331,kI 4,kI 0,kI 0,kI 3,.ref 443,.bool true,kI 181,.ref 444,.none,.ref 445,.ref 446,.ref 447,kI 816,kI 331] 817),
  (454,kF "_law_askable" jf (.none) hV 453),
  (453,kC "_law_askable" 819 [kI 337,kI 2,kI 0,kI 0,kI 3,.ref 450,.bool true,kI 181,.ref 451,.none,.none,.none,.ref 452,kI 822,kI 337] 823),
  (459,kF "_law_kept" qu (.none) hV 458),
  (458,kC "_law_kept" 825 [kI 339,kI 2,kI 0,kI 0,kI 3,.ref 455,.bool true,kI 181,.ref 456,.none,.none,.none,.ref 457,kI 828,kI 339] 829),
  (464,kF "_law_row" vK (.none) hV 463),
  (463,kC "_law_row" 831 [kI 341,kI 1,kI 0,kI 0,kI 3,.ref 460,.bool true,kI 181,.ref 461,.none,.none,.none,.ref 462,kI 834,kI 341] 835),
  (471,kF "_law_stood" lh (.none) hV 470),
  (470,kC "_law_stood" 837 [kI 345,kI 2,kI 0,kI 0,kI 3,.ref 465,.bool true,kI 181,.ref 466,.none,.ref 467,.ref 468,.ref 469,kI 845,kI 345] 846),
  (476,kF "_law_due_word" iD (.none) hV 475),
  (475,kC "_law_due_word" 848 [kI 350,kI 3,kI 0,kI 0,kI 3,.ref 472,.bool true,kI 181,.ref 473,.none,.none,.none,.ref 474,kI 851,kI 350] 852),
  (483,kF "_law_due_ask" jh (.none) hV 482),
  (482,kC "_law_due_ask" 854 [kI 367,kI 3,kI 0,kI 0,kI 3,.ref 477,.bool true,kI 181,.ref 478,.none,.ref 479,.ref 480,.ref 481,kI 862,kI 367] 863),
  (490,kF "_law_deed" nZ (.none) hV 489),
  (489,kC "_law_deed" 865 [kI 373,kI 2,kI 0,kI 0,kI 3,.ref 484,.bool true,kI 181,.ref 485,.none,.ref 486,.ref 487,.ref 488,kI 872,kI 373] 873),
  (497,kF "_law_due" vH (.none) hV 496),
  (496,kC "_law_due" 875 [kI 381,kI 3,kI 0,kI 0,kI 3,.ref 491,.bool true,kI 181,.ref 492,.none,.ref 493,.ref 494,.ref 495,kI 881,kI 381] 882),
  (504,kF "_law_sign" qx (.none) hV 503),
  (503,kC "_law_sign" 884 [kI 385,kI 1,kI 0,kI 0,kI 3,.ref 498,.bool true,kI 181,.ref 499,.none,.ref 500,.ref 501,.ref 502,kI 889,kI 385] 890),
  (511,kF "_law_odd_line" iE (.none) hV 510),
  (510,kC "_law_odd_line" 892 [kI 389,kI 2,kI 0,kI 0,kI 3,.ref 505,.bool true,kI 181,.ref 506,.none,.ref 507,.ref 508,.ref 509,kI 903,kI 389] 904),
  (516,kF "_law_is_line" ji (.none) hV 515),
  (515,kC "_law_is_line" 906 [kI 400,kI 2,kI 0,kI 0,kI 3,.ref 512,.bool true,kI 181,.ref 513,.none,.none,.none,.ref 514,kI 909,kI 400] 910),
  (523,kF "law" qB (.none) hV 522),
  (522,kC "law" 912 [kI 404,kI 1,kI 0,kI 0,kI 3,.ref 517,.bool true,kI 181,.ref 518,.none,.ref 519,.ref 520,.ref 521,kI 924,kI 404] 925),
  (332,kM "__init__" "Desk.__init__" et (.none) uF 331),
  (331,kD "__init__" "Desk.__init__" 637 [kI 216,kI 2,kI 0,kI 0,kI 3,.ref 326,.bool true,kI 181,.ref 327,.none,.ref 328,.ref 329,.ref 330,kI 642,kI 216] 643),
  (339,kM "say" "Desk.say" jO (.none) uF 338),
  (338,kD "say" "Desk.say" 645 [kI 221,kI 2,kI 0,kI 0,kI 3,.ref 333,.bool true,kI 181,.ref 334,.none,.ref 335,.ref 336,.ref 337,kI 652,kI 221] 653),
  (346,kM "take_ask" "Desk.take_ask" eu (.none) uF 345),
  (345,kD "take_ask" "Desk.take_ask" 655 [kI 234,kI 2,kI 0,kI 0,kI 3,.ref 340,.bool true,kI 181,.ref 341,.none,.ref 342,.ref 343,.ref 344,kI 660,kI 234] 661),
  (353,kM "take_answer" "Desk.take_answer" cT (.none) uF 352),
  (352,kD "take_answer" "Desk.take_answer" 663 [kI 240,kI 2,kI 0,kI 0,kI 3,.ref 347,.bool true,kI 181,.ref 348,.none,.ref 349,.ref 350,.ref 351,kI 669,kI 240] 670),
  (360,kM "take_back" "Desk.take_back" dP (.none) uF 359),
  (359,kD "take_back" "Desk.take_back" 672 [kI 248,kI 1,kI 0,kI 0,kI 3,.ref 354,.bool true,kI 181,.ref 355,.none,.ref 356,.ref 357,.ref 358,kI 676,kI 248] 677),
  (47,kT [.int (0) 233,.int (1) 234] 0),
  (128,kT [.ref 126,.ref 127] 0),
  (126,kT [] 0),
  (127,kT [] 0),
  (318,⟨.type "dict",none,.dict (List.toArray [kE P "may" 616 (.ref 291),kE P "best" 617 (.ref 296),kE P "bound" 618 (.ref 303),kE P "kept" 619 (.ref 310)]) 4,#[]⟩),
  (363,kL "Desk" [.type "object"] [.ref 363,.type "object"] 362 [] #[none,none,some (.str "Desk" 625),some (.str "Desk" 633),some (.builtin "object.__new__"),some (.bool true)]),
  (362,⟨.type "dict",none,.dict (List.toArray [kE P "__module__" 632 (.str "askedpairs.desk" 555),kE P "__firstlineno__" 636 (.int (214) 635),kE P "__init__" 644 (.ref 332),kE P "say" 654 (.ref 339),kE P "take_ask" 662 (.ref 346),kE P "take_answer" 671 (.ref 353),kE P "take_back" 678 (.ref 360),kE P "__static_attributes__" 682 (.ref 361),kE P "__dict__" 684 (.ref 364),kE P "__weakref__" 686 (.ref 365),kE P "__doc__" 687 (.none)]) 4,#[]⟩)]
def kA:List xM:=[3,135,134,140,139,147,146,152,151,159,158,202,201,214,213,219,218,224,223,229,228,279,278,291,290,310,309,317,316,374,373,381,380,388,387,395,394,402,401,409,408,416,415,423,422,430,429,435,434,442,441,449,448,454,453,459,458,464,463,471,470,476,475,483,482,490,489,497,496,504,503,511,510,516,515,523,522,332,331,339,338,346,345,353,352,360,359,47,128,126,127,318,363,362]
def kq:PK:={Qi with main:={Qi.main with body:=[top 1,top 2,top 3,top 5,top 6,top 7,top 8,top 9,top 10,top 11,top 12,top 14,top 15,top 16,top 17,top 18,top 20,top 21,top 22,top 23,top 24,top 25,top 26,top 28,top 30,top 32,top 33,top 34,top 35,top 36,top 38,top 39,top 40,top 41,top 43,top 44,top 46,top 47,top 48,top 49,top 51,top 52,top 53,top 54,top 55,top 57,top 58,top 59,top 60,top 61,top 62,top 63,top 64,top 65,top 67,top 68,top 69,top 70,top 71,top 72,top 73,top 74,top 75,top 76,top 77,top 78,top 79,top 80,top 81,top 82,top 83,top 84,top 85,top 86,top 87,top 88,top 89,top 90]}}
def kH:W.Hook:=W.kHook kK kA (fun _=>by kernel_rfl)
abbrev lX(s:PB):Bool:=W.xlAt kq [] s&&W.recOk (W.RowW.records (W.OpenRow.toRowW (W.OpenLaw.row Uh))) s
def yS(p:PK)(w:PJ):Nat→W.SharedT→Thread→Option W.SharedT
  | 0,_,_=>none
  | n+1,s,t=>match W.through t with
    | true=>some s
    | false=>match W.stepOk 11 (some (.ref 6)) t with
      | false=>none
      | true=>match W.stepT (denote treeTable) p w s t with
        | some (x,y)=>yS p w n x y
        | none=>none
theorem Fm{p:PK}{w:PJ}:∀{n:Nat} {s r:W.SharedT} {t:Thread},yS p w n s t=some r→W.topRun treeTable p w 11 (some (.ref 6)) n s.abs t=some r.abs
  | 0,_,_,_,h=>by cases h
  | n+1,s,r,t,h=>by
    unfold yS at h
    unfold W.topRun
    split at h
    · next e=>rw [e];cases h;rfl
    · next e=>
      rw [e]
      split at h
      · cases h
      · next k=>
        rw [k]
        split at h
        · next g=>rw [W.stepT_spec g];exact Fm h
        · cases h
def Fk:List Obj→Nat→W.BT→W.BT
  | [],_,t=>t
  | o::r,n,t=>Fk r (n+1) (t.ins n o)
noncomputable def Kf(w:PJ)(os:OsState):W.SharedT:=⟨Fk (RT w.params).objs.toList 0 .nil,11,(RT w.params).life,#[],W.boot_drawn,W.boot_toks,os⟩
theorem H_:(fun w os=>(Kf w os).abs)=fun w os=>⟨RT w.params,#[],W.boot_drawn,W.boot_toks,os⟩:=by kernel_rfl
theorem Ke:(fun w:PJ=>((RT w.params).isNs Qn,(RT w.params).objs.size,(RT w.params).nsMap Qn "__annotations__"))=fun _=>(true,11,some (.ref 6)):=by kernel_rfl
noncomputable def qT(p:PK)(w:PJ)(s:PB):Bool:=W.staticsOk (QK p.main.body) (RT w.params) s.heap&&W.namesBound p s.heap&&W.gensDone s&&W.laidKept (RT w.params) s.heap
def ol(p:PK)(r:PJ→PJ)(N:Nat){α:Type}(f:PJ→PB→α)(a:PJ→α):Prop:=∀w,(fun os=>(yS p (r w) N (Kf w os) (W.topStub p)).map fun x=>f w x.abs)=fun _=>some (a (r w))
theorem Ex{p q:PK}{L:List Str}{X:PB→Bool}{α:Type}{Yf:PB→α}{Ya:PJ→α}{N:Nat}(o:W.opening p=W.plainProg p.main.scope.names)(hN:Nat.ble 600 N=true)(fe:fenceModules? p=some)
    (h:∀w,∃r:PJ→PJ,r w=w∧ol p r N (fun w s=>(qT p w s,QT q L (QK p.main.body) X true s,Yf s)) fun w=>(true,W.openGood q L,Ya w)):W.LeftO p q L X Yf Ya N:=fun w=>by
  obtain⟨s,e,k⟩:=Ui.1 (W.boot_open (N:=N) o hN (fun s=>congrFun fe s) w)
  obtain⟨r,rw1,h⟩:=h w
  obtain⟨H,g,d,t,os⟩:=s
  cases k
  have z:=congrFun (h w) os
  rw [rw1] at z
  obtain⟨y,ey,hy⟩:=Ui.1 z
  have a:=Fm ey
  rw [congrFun (congrFun H_ w) os] at a
  have b:=congrFun Ke w
  simp only [Prod.mk.injEq] at b hy
  have c:W.topFrom treeTable p w N ⟨RT w.params,#[],W.boot_drawn,W.boot_toks,os⟩=some y.abs:=by
    unfold W.topFrom
    dsimp only
    rw [b.1,b.2.1,b.2.2,a]
    have m:=hy.1
    unfold qT at m
    simp only [Qb,m]
    rfl
  unfold W.openEnds
  rw [e,Qb]
  exact(congrArg (Option.map _) c).trans (congrArg some (Prod.ext hy.2.1 hy.2.2))
theorem Ia{p:PK}{N:Nat}{α:Type}{f:PJ→PB→α}{a:PJ→α}{row:String}(h:∀b,ol p (fun w=>w.withFollow row b) N f a):∀w:PJ,∃r:PJ→PJ,r w=w∧ol p r N f a:=fun w=>⟨_,World.withFollow_self w row,h (w.params.followText row)⟩
theorem Gm:ol Qi (fun w=>w.withFollow "special-get-raises" false) 6234 (fun v s=>(qT Qi v s,(QT kq ["QUESTIONS"] (QK Qi.main.body) lX true s).1)) (fun v=>(true,expectedOf kq)):=fun w=>by kernel_rfl
theorem Gp:ol Qi (fun w=>w.withFollow "special-get-raises" false) 6234 (fun v s=>((QT kq ["QUESTIONS"] (QK Qi.main.body) lX true s).2.1,(QT kq ["QUESTIONS"] (QK Qi.main.body) lX true s).2.2.1)) (fun v=>(bltViewBooted,true)):=fun w=>by kernel_rfl
theorem Gs:ol Qi (fun w=>w.withFollow "special-get-raises" false) 6234 (fun v s=>(QT kq ["QUESTIONS"] (QK Qi.main.body) lX true s).2.2.2.1) (fun v=>true):=fun w=>by kernel_rfl
theorem Gw:ol Qi (fun w=>w.withFollow "special-get-raises" false) 6234 (fun v s=>((QT kq ["QUESTIONS"] (QK Qi.main.body) lX true s).2.2.2.2.1,(QT kq ["QUESTIONS"] (QK Qi.main.body) lX true s).2.2.2.2.2.1)) (fun v=>(pinGoodD (drecsOf kq),plainGoodE kq (W.looseW kq ["QUESTIONS"]))):=fun w=>by kernel_rfl
theorem Gy:ol Qi (fun w=>w.withFollow "special-get-raises" false) 6234 (fun v s=>((QT kq ["QUESTIONS"] (QK Qi.main.body) lX true s).2.2.2.2.2.2,W.Hook.obs kH s)) (fun v=>((plainGoodD kq ["QUESTIONS"],W.wideGood kq,W.clsGoodW kq ["QUESTIONS"]),W.Hook.val kH v)):=fun w=>by kernel_rfl
theorem Gn:ol Qi (fun w=>w.withFollow "special-get-raises" true) 6234 (fun v s=>(qT Qi v s,(QT kq ["QUESTIONS"] (QK Qi.main.body) lX true s).1)) (fun v=>(true,expectedOf kq)):=fun w=>by kernel_rfl
theorem Gq:ol Qi (fun w=>w.withFollow "special-get-raises" true) 6234 (fun v s=>((QT kq ["QUESTIONS"] (QK Qi.main.body) lX true s).2.1,(QT kq ["QUESTIONS"] (QK Qi.main.body) lX true s).2.2.1)) (fun v=>(bltViewBooted,true)):=fun w=>by kernel_rfl
theorem Gu:ol Qi (fun w=>w.withFollow "special-get-raises" true) 6234 (fun v s=>(QT kq ["QUESTIONS"] (QK Qi.main.body) lX true s).2.2.2.1) (fun v=>true):=fun w=>by kernel_rfl
theorem Gx:ol Qi (fun w=>w.withFollow "special-get-raises" true) 6234 (fun v s=>((QT kq ["QUESTIONS"] (QK Qi.main.body) lX true s).2.2.2.2.1,(QT kq ["QUESTIONS"] (QK Qi.main.body) lX true s).2.2.2.2.2.1)) (fun v=>(pinGoodD (drecsOf kq),plainGoodE kq (W.looseW kq ["QUESTIONS"]))):=fun w=>by kernel_rfl
theorem Gz:ol Qi (fun w=>w.withFollow "special-get-raises" true) 6234 (fun v s=>((QT kq ["QUESTIONS"] (QK Qi.main.body) lX true s).2.2.2.2.2.2,W.Hook.obs kH s)) (fun v=>((plainGoodD kq ["QUESTIONS"],W.wideGood kq,W.clsGoodW kq ["QUESTIONS"]),W.Hook.val kH v)):=fun w=>by kernel_rfl
noncomputable def LD(v:PJ)(s:PB):=(qT Qi v s,(QT kq ["QUESTIONS"] (QK Qi.main.body) lX true s),W.Hook.obs kH s)
noncomputable def LC(v:PJ):=(true,W.openGood kq ["QUESTIONS"],W.Hook.val kH v)
theorem Kd{τ β0 β1 β2 β3 β4 β5 β6 β7 β8:Type}{o:Option τ}{a0:τ→β0}{a1:τ→β1}{a2:τ→β2}{a3:τ→β3}{a4:τ→β4}{a5:τ→β5}{a6:τ→β6}{a7:τ→β7}{a8:τ→β8}{c0:β0}{c1:β1}{c2:β2}{c3:β3}{c4:β4}{c5:β5}{c6:β6}{c7:β7}{c8:β8}
    (h:o.map (fun x=>(a0 x,a1 x))=some (c0,c1))(k:o.map (fun x=>(a2 x,a3 x))=some (c2,c3))(n:o.map a4=some c4)(l:o.map (fun x=>(a5 x,a6 x))=some (c5,c6))(m:o.map (fun x=>(a7 x,a8 x))=some (c7,c8)):
    o.map (fun x=>(a0 x,(a1 x,a2 x,a3 x,a4 x,a5 x,a6 x,a7 x),a8 x))=some (c0,(c1,c2,c3,c4,c5,c6,c7),c8):=by
  cases o with
  | none=>cases h
  | some x=>
    simp only [Qy,Sk,Prod.mk.injEq] at h k l m n ⊢
    exact⟨h.1,⟨h.2,k.1,k.2,n,l.1,l.2,m.1⟩,m.2⟩
theorem left:W.LeftO Qi kq ["QUESTIONS"] lX (W.Hook.obs kH) (W.Hook.val kH) 6234:=Ex (by kernel_rfl) (by kernel_rfl) (by kernel_rfl) (Ia (row:="special-get-raises") (f:=LD) (a:=LC) fun b=>match b with | false=>fun w=>funext fun os=>Kd (congrFun (Gm w) os) (congrFun (Gp w) os) (congrFun (Gs w) os) (congrFun (Gw w) os) (congrFun (Gy w) os) | true=>fun w=>funext fun os=>Kd (congrFun (Gn w) os) (congrFun (Gq w) os) (congrFun (Gu w) os) (congrFun (Gx w) os) (congrFun (Gz w) os))
end V92
namespace L2
open PySem PySem.Spec PyProof.Rows
theorem Pr{α:Type _}{β:Type _}{o:Option α}{f:α→Option β}{b:β}(h:o.bind f=some b):∃a,o=some a∧f a=some b:=Option.bind_eq_some_iff.mp h
theorem Pt{α:Type _}{β:Type _}{o:Option α}{f:α→β}{b:β}(h:o.map f=some b):∃a,o=some a∧f a=b:=Ui.mp h
theorem Pu{α:Type _}{l:List α}{i:Nat}{a:α}(h:l[i]?=some a):∃w:i<l.length,l[i]=a:=List.getElem?_eq_some_iff.mp h
theorem Pv{α:Type _}{a:α}{s t:List α}(h:a∈s++t):a∈s∨a∈t:=QU.mp h
theorem Pw{α:Type _}{β:Type _}{b:β}{f:α→β}{l:List α}(h:b∈l.map f):∃a,a∈l∧f a=b:=SH.mp h
theorem Px{α:Type _}{a b:α}{l:List α}(h:a∈b::l):a=b∨a∈l:=Qz.mp h
theorem Py{α:Type _}{l:List α}{i:Nat}{a:α}(h:l[i]?=some a):a∈l:=List.mem_of_getElem? h
abbrev j1:=Sum Int Str
def vd:j1→MG→Bool
  | .inl k,v=>Value.isInt k v
  | .inr x,v=>Value.isStrOf x v
def K_(w:PJ):j1→Int
  | .inl k=>hashInt k
  | .inr x=>hashStr w x
theorem cq:∀{k:j1} {v:MG},vd k v=true→(∃i t,k=Sum.inl i∧v=Value.int i t)∨(∃x t,k=Sum.inr x∧v=Value.str x t)
  | .inl i,v,h=>by
    obtain⟨t,e⟩:=Value.isInt_shape (k:=i) (v:=v) h
    exact .inl ⟨i,t,rfl,e⟩
  | .inr x,v,h=>by
    obtain⟨t,e⟩:=Value.isStrOf_shape (x:=x) (v:=v) h
    exact .inr ⟨x,t,rfl,e⟩
theorem k7(x:Str)(t:Tok):vd (.inr x) (.str x t)=true:=by simp [vd,Value.isStrOf]
theorem F8(a b:Int):decide ((Sum.inl a:j1)=Sum.inl b)=(a==b):=by
  by_cases e:a=b
  · subst e;simp
  · have h:¬(Sum.inl a:j1)=Sum.inl b:=fun q=>e (Sum.inl.inj q)
    rw [decide_eq_false h]
    exact(beq_eq_false_iff_ne.mpr e).symm
theorem Ga(a b:Str):decide ((Sum.inr a:j1)=Sum.inr b)=decide (a=b):=by
  by_cases e:a=b
  · subst e;simp
  · have h:¬(Sum.inr a:j1)=Sum.inr b:=fun q=>e (Sum.inr.inj q)
    rw [decide_eq_false h,decide_eq_false e]
theorem F9(a:Int)(b:Str):decide ((Sum.inl a:j1)=Sum.inr b)=false:=decide_eq_false (fun q=>nomatch q)
theorem F_(a:Str)(b:Int):decide ((Sum.inr a:j1)=Sum.inl b)=false:=decide_eq_false (fun q=>nomatch q)
def fX(prog:PK)(w:PJ):PySem.KeyKind prog w j1 where
  is:=vd
  hash:=K_ w
  inj:=fun v a b ha hb=>by
    rcases cq ha with ⟨i,t,rfl,rfl⟩ | ⟨x,t,rfl,rfl⟩
    · rcases cq hb with ⟨j,u,rfl,e⟩ | ⟨y,u,rfl,e⟩
      · injection e with e1 _;rw [e1]
      · exact nomatch e
    · rcases cq hb with ⟨j,u,rfl,e⟩ | ⟨y,u,rfl,e⟩
      · exact nomatch e
      · injection e with e1 _;rw [e1]
  byValue:=fun k v h=>by
    rcases cq h with ⟨i,t,rfl,rfl⟩ | ⟨x,t,rfl,rfl⟩<;>rfl
  pyHash:=fun hv h=>by
    rcases cq hv with ⟨i,t,rfl,rfl⟩ | ⟨x,t,rfl,rfl⟩
    · exact wpAny_pyHash_int h
    · exact wpAny_pyHash_str h
  eqBool:=fun hu hv h=>by
    rcases cq hu with ⟨i,t,rfl,rfl⟩ | ⟨x,t,rfl,rfl⟩
    · rcases cq hv with ⟨j,u,rfl,rfl⟩ | ⟨y,u,rfl,rfl⟩
      · rw [F8] at h;exact wpAny_eqBool_int h
      · rw [F9] at h;exact SeqAt.EqAt.int_str i t y u _ _ _ _ h
    · rcases cq hv with ⟨j,u,rfl,rfl⟩ | ⟨y,u,rfl,rfl⟩
      · rw [F_] at h;exact SeqAt.EqAt.str_int x t j u _ _ _ _ h
      · rw [Ga] at h;exact wpAny_eqBool_str h
  «strs»:=fun k x t v h=>by
    rcases cq h with ⟨i,u,rfl,e⟩ | ⟨y,u,rfl,e⟩
    · exact nomatch e
    · injection e with e1 _
      subst e1
      cases v<;>rfl
inductive V where
  | non | bl (b:Bool) | int (i:Int) | str (x:Str) | byt (b:Array UInt8) | flt (b:UInt64) | ref (a:xM) | ty (n:String)
  deriving DecidableEq
def bN:V→MG→Prop
  | .non,u=>u=Value.none
  | .bl b,u=>u=Value.bool b
  | .int i,u=>∃t,u=Value.int i t
  | .str x,u=>∃t,u=Value.str x t
  | .byt b,u=>∃t,u=Value.bytes b t
  | .flt b,u=>∃t,u=Value.float b t
  | .ref a,u=>u=Value.ref a
  | .ty n,u=>u=Value.type n
abbrev aV:List V→List MG→Prop:=Paired bN
theorem aV.length{xs:List V}{us:List MG}(r:aV xs us):xs.length=us.length:=Paired.length r
theorem aV.get:∀{xs:List V} {us:List MG} {i:Nat} {x:V},aV xs us→xs[i]?=some x→∃u,us[i]?=some u∧bN x u
  | _,_,_,_,.nil,e=>by simp at e
  | _,_,0,_,.cons r _,e=>by simp at e;subst e;exact⟨_,rfl,r⟩
  | _,_,i+1,x,.cons _ t,e=>by
    obtain⟨u,h1,h2⟩:=aV.get (i:=i) (x:=x) t (by simpa using e)
    exact⟨u,by simpa using h1,h2⟩
theorem aV.set{x:V}{u:MG}(r:bN x u):∀{xs:List V} {us:List MG} (i:Nat),aV xs us→aV (xs.set i x) (us.set i u)
  | _,_,_,.nil=>.nil
  | _,_,0,.cons _ t=>.cons r t
  | _,_,i+1,.cons q t=>.cons q (aV.set r i t)
theorem aV.append:∀{xs ys:List V} {us ws:List MG},aV xs us→aV ys ws→aV (xs++ys) (us++ws)
  | _,_,_,_,.nil,s=>s
  | _,_,_,_,.cons r t,s=>.cons r (aV.append t s)
theorem aV.take:∀{xs:List V} {us:List MG} (n:Nat),aV xs us→aV (xs.take n) (us.take n)
  | _,_,0,_=>.nil
  | _,_,_+1,.nil=>.nil
  | _,_,n+1,.cons r t=>.cons r (aV.take n t)
theorem aV.drop:∀{xs:List V} {us:List MG} (n:Nat),aV xs us→aV (xs.drop n) (us.drop n)
  | _,_,0,r=>r
  | _,_,_+1,.nil=>.nil
  | _,_,n+1,.cons _ t=>aV.drop n t
def qY:Option V→Option MG→Prop
  | some v,some u=>bN v u
  | none,none=>True
  | _,_=>False
def KV{κ:Type}:List (κ × V)→List (κ × MG)→Prop:=Paired fun(p:κ × V) (q:κ × MG)=>p.1=q.1∧bN p.2 q.2
def kV:j1→V
  | .inl i=>.int i
  | .inr x=>.str x
inductive HO where
  /-- a list -/
  | lst (xs:List V)
  /-- a tuple (never changes) -/
  | tup (xs:List V)
  /-- a dict whose keys are ints and texts; one whose keys are tuples of ints and texts (the empty one is both) -/
  | dK (kvs:List (j1 × V)) | dT (kvs:List (List j1 × V))
  /-- a set of ints: its members, its size -/
  | set (S:Int→Bool) (n:Nat)
  /-- an instance of the class at C, its dict at dx, its attributes -/
  | ins (C dx:xM) (fs:List (Str × V))
  /-- the dict of the instance at x -/
  | own (x:xM)
  /-- the dict of an exception -/
  | xd (fs:List (Str × V))
  /-- a bound method, f of x -/
  | met (f x:xM)
  /-- a range object lo, lo + 1, .. below hi -/
  | rng (lo hi:Int)
  /-- a thing that is known to the object (the script; a dict while a loop walks it): read, never written while it is so -/
  | frz (o:Obj) (u:HO)
  /-- a code object's table -/
  | tbl (ps:Array MG)
  /-- any other thing, by what is true of its one object (a def of one's own: SetO a S n := HO.ext fun h => ..) -/
  | ext (φ:PL→Prop)
abbrev Hp:=xM→Option HO
def cy(H:Hp)(a:xM)(o:HO):Hp:=fun b=>if b=a then some o else H b
theorem aM{H:Hp}{a:xM}{o:HO}:cy H a o a=some o:=by unfold cy;rw [if_pos rfl]
theorem aY{H:Hp}{a b:xM}{o:HO}(h:b≠a):cy H a o b=H b:=by unfold cy;rw [if_neg h]
theorem fM{H:Hp}{a b:xM}{o:HO}(h:H a=some o)(h':H b=none):a≠b:=by
  intro e;subst e;rw [h] at h';cases h'
def sW(h:PL)(a:xM)(items:Array MG):Prop:=∃o,h.get? a=some o∧o.cls=.type "tuple"∧∃n,o.data=.seq items n∧o.dict=none
theorem sW.tup{h:PL}{a:xM}{items:Array MG}(x:sW h a items):IsTup h a items:=let ⟨o,ho,hc,n,hd,_⟩:=x;⟨o,ho,hc,n,hd⟩
theorem sW.new(h:PL)(items:Array MG):sW (h.push {cls:=.type "tuple",data:=.seq items}) h.objs.size items:=⟨_,QL _ rfl,rfl,_,rfl,rfl⟩
section
variable(P:PK)(w:PJ)
def gO(H:Hp)(h:PL)(a:xM):HO→Prop
  | .lst xs=>xs.length≤PY∧∃(its:List MG) (n:Nat),aV xs its∧h.get? a=some {cls:=.type "list",data:=.seq its.toArray n}
  | .tup xs=>xs.length≤PY∧∃its:List MG,aV xs its∧sW h a its.toArray
  | .dK kvs=>kvs.length≤PY∧(a==sysModules)=false∧∃vs,KV kvs vs∧h.DictOf (fX P w) a vs
  | .dT kvs=>kvs.length≤PY∧(a==sysModules)=false∧∃xs:List (List j1 × xM × MG),
      Paired (fun(p:List j1 × V) (q:List j1 × xM × MG)=>p.1=q.1∧H q.2.1=some (.tup (p.1.map kV))∧bN p.2 q.2.2) kvs xs∧
      ∃o es ep,h.get? a=some o∧o.ExactDict∧o.data=.dict es ep∧es.toList=xs.map (entryOfKey (tupleKind (fX P w)))∧(xs.map (·.1)).Nodup
  | .set S n=>h.SetOf (intKind P w) a S n
  | .ins C dx fs=>H dx=some (.own a)∧fs.length≤1000∧dx≠a∧h.get? a=some (RZ C dx)∧
      ∃mA,h.Ns1 dx mA∧(∀f,qY (fs.lookup f) (mA f))∧PySem.Within mA (fs.map (·.1))
  | .own _=>∃o,h.get? a=some o
  | .xd fs=>∃mA,h.Ns1 a mA∧∀f,qY (fs.lookup f) (mA f)
  | .rng lo hi=>∃t u v,h.get? a=some {cls:=.type "range",data:=.fields #[.int lo t,.int hi u,.int 1 v]}
  | .frz o u=>h.get? a=some o∧gO H h a u
  | .tbl ps=>h.get? a=some {cls:=.none,data:=.fields ps}
  | .met f x=>h.get? a=some (Uj (.ref f) (.ref x))
  | .ext φ=>φ h∧(∃o,h.get? a=some o)∧∀h1 h2:PL,φ h1→(∀o,h1.get? a=some o→h2.get? a=some o)→φ h2
def oY(H:Hp)(h:PL):Prop:=∀a o,H a=some o→gO P w H h a o
end
section
variable{P:PK}{w:PJ}{H H':Hp}{h h':PL}{a:xM}{o:HO}
theorem gO.lt(x:gO P w H h a o):a < h.objs.size:=by
  cases o with
  | lst xs=>obtain⟨_,_,_,_,e⟩:=x;exact Qg e
  | tup xs=>obtain⟨_,_,_,p⟩:=x;exact p.tup.lt
  | dK kvs=>obtain⟨_,_,_,_,o,_,_,e,_⟩:=x;exact Qg e
  | dT kvs=>obtain⟨_,_,_,_,o,_,_,e,_⟩:=x;exact Qg e
  | set S n=>obtain⟨o,_,_,_,e,_⟩:=x;exact Qg e
  | ins C dx fs=>obtain⟨_,_,_,e,_⟩:=x;exact Qg e
  | own y=>obtain⟨_,e⟩:=x;exact Qg e
  | xd fs=>obtain⟨_,⟨_,_,_,e,_⟩,_⟩:=x;exact Qg e
  | rng lo hi=>obtain⟨_,_,_,e⟩:=x;exact Qg e
  | frz ob u=>obtain⟨e,_⟩:=x;exact Qg e
  | tbl ps=>exact Qg (show h.get? a=some _ from x)
  | met f y=>exact Qg (show h.get? a=some _ from x)
  | ext φ=>obtain⟨_,⟨_,e⟩,_⟩:=x;exact Qg e
theorem Paired.mapP{α β:Type}{F G:α→β→Prop}:∀{l₁:List α} {l₂:List β},Paired F l₁ l₂→(∀a b,F a b→G a b)→Paired G l₁ l₂
  | _,_,.nil,_=>.nil
  | _,_,.cons r t,f=>.cons (f _ _ r) (Paired.mapP t f)
theorem gO.stay(x:gO P w H h a o)(k:∀b u,(b=a∨H b=some (.own a))→h.get? b=some u→h'.get? b=some u)
    (ho:∀b,H b=some (.own a)→H' b=some (.own a))(ht:∀b xs,H b=some (.tup xs)→H' b=some (.tup xs)):gO P w H' h' a o:=by
  induction o with
  | lst xs=>obtain⟨z,its,n,r,e⟩:=x;exact⟨z,its,n,r,k _ _ (.inl rfl) e⟩
  | tup xs=>obtain⟨z,its,r,ob,e,c⟩:=x;exact⟨z,its,r,ob,k _ _ (.inl rfl) e,c⟩
  | dK kvs=>obtain⟨z,y,vs,r,ob,es,ep,e,c⟩:=x;exact⟨z,y,vs,r,ob,es,ep,k _ _ (.inl rfl) e,c⟩
  | dT kvs=>
    obtain⟨z,y,xs,r,ob,es,ep,e,c⟩:=x
    exact⟨z,y,xs,Paired.mapP r fun p q z=>⟨z.1,ht _ _ z.2.1,z.2.2⟩,ob,es,ep,k _ _ (.inl rfl) e,c⟩
  | set S n=>obtain⟨ob,es,ep,t,e,c⟩:=x;exact⟨ob,es,ep,t,k _ _ (.inl rfl) e,c⟩
  | ins C dx fs=>
    obtain⟨d,z,ne,e,mA,⟨od,es,ep,e2,c⟩,r⟩:=x
    exact⟨ho _ d,z,ne,k _ _ (.inl rfl) e,mA,⟨od,es,ep,k _ _ (.inr d) e2,c⟩,r⟩
  | own y=>obtain⟨ob,e⟩:=x;exact⟨ob,k _ _ (.inl rfl) e⟩
  | xd fs=>obtain⟨mA,⟨od,es,ep,e,c⟩,r⟩:=x;exact⟨mA,⟨od,es,ep,k _ _ (.inl rfl) e,c⟩,r⟩
  | rng lo hi=>obtain⟨t,u,v,e⟩:=x;exact⟨t,u,v,k _ _ (.inl rfl) e⟩
  | frz ob u ih=>obtain⟨e,q⟩:=x;exact⟨k _ _ (.inl rfl) e,ih q⟩
  | tbl ps=>
    have e:h.get? a=some {cls:=.none,data:=.fields ps}:=x
    show h'.get? a=some {cls:=.none,data:=.fields ps}
    exact k a _ (.inl rfl) e
  | met f y=>
    have e:h.get? a=some (Uj (.ref f) (.ref y)):=x
    show h'.get? a=some (Uj (.ref f) (.ref y))
    exact k a _ (.inl rfl) e
  | ext φ=>obtain⟨p,⟨o,e⟩,st⟩:=x;exact⟨st _ _ p fun o q=>k _ _ (.inl rfl) q,⟨o,k _ _ (.inl rfl) e⟩,st⟩
theorem oY.lt(x:oY P w H h)(e:H a=some o):a < h.objs.size:=(x a o e).lt
theorem oY.fresh(x:oY P w H h)(e:h.objs.size≤a):H a=none:=by
  cases q:H a with
  | none=>rfl
  | some u=>exact absurd (QG (x.lt q) e) (RU _)
theorem oY.kept(x:oY P w H h)(k:∀b u,h.get? b=some u→h'.get? b=some u):oY P w H h':=fun a o e=>
  (x a o e).stay (fun b u _ q=>k b u q) (fun _ q=>q) fun _ _ q=>q
theorem oY.laid(x:oY P w H h)(k:∀b u,h.get? b=some u→h'.get? b=some u)(hp:h.objs.size≤a)(new:gO P w (cy H a o) h' a o):oY P w (cy H a o) h':=fun b u e=>by
  have hn:=x.fresh hp
  by_cases hb:b=a
  · subst hb;rw [aM] at e;cases e;exact new
  · rw [aY hb] at e
    exact(x b u e).stay (fun c v _ q=>k c v q) (fun c q=>by rw [aY (fM q hn)];exact q) fun c xs q=>by rw [aY (fM q hn)];exact q
end
def Rd(H:Hp)(a:xM)(u:HO):Prop:=H a=some u∨∃o,H a=some (.frz o u)
theorem Rd.ok{P:PK}{w:PJ}{H:Hp}{h:PL}{a:xM}{u:HO}(r:Rd H a u)(x:oY P w H h):gO P w H h a u:=by
  rcases r with r | ⟨o,r⟩
  · exact x a u r
  · obtain⟨_,q⟩:=x a _ r
    exact q
def Ki:Option HO→Prop
  | some (.lst _)=>True
  | some (.dK _)=>True
  | some (.dT _)=>True
  | some (.set _ _)=>True
  | some (.ins _ _ _)=>True
  | some (.ext _)=>True
  | _=>False
section
variable{P:PK}{w:PJ}{H:Hp}{h h':PL}{x e:xM}{o':HO}
theorem oY.write(ok:oY P w H h)(mu:Ki (H x))(he:e=x∨H e=some (.own x))(k:∀b u,b≠e→h.get? b=some u→h'.get? b=some u)(heo:∃u,h'.get? e=some u)
    (new:gO P w (cy H x o') h' x o'):oY P w (cy H x o') h':=fun b u q=>by
  have nown:∀c y,H c=some (.own y)→c≠x:=fun c y r z=>by subst z;rw [r] at mu;exact mu
  have ntup:∀c xs,H c=some (.tup xs)→c≠x:=fun c xs r z=>by subst z;rw [r] at mu;exact mu
  by_cases hb:b=x
  · subst hb;rw [aM] at q;cases q;exact new
  · rw [aY hb] at q
    by_cases hbe:b=e
    · have q':H b=some (.own x):=by
        rcases he with z | z
        · exact absurd (hbe.trans z) hb
        · rw [hbe];exact z
      rw [q] at q';cases q'
      obtain⟨v,hv⟩:=heo
      exact⟨v,by rw [hbe];exact hv⟩
    · refine(ok b u q).stay (fun c v hc r=>k c v ?_ r) (fun c r=>by rw [aY (nown c b r)];exact r) fun c xs r=>by rw [aY (ntup c xs r)];exact r
      rcases hc with rfl | hc
      · exact hbe
      · rintro rfl
        rcases he with z | z
        · exact nown c b hc z
        · rw [hc] at z;cases z;exact hb rfl
end
structure Un (fs ex:List xM) (H H':Hp) (h h':PL):Prop where
  keep:∀b o,h.get? b=some o→H b=none→b∉fs→b∉ex→h'.get? b=some o
  slot:∀b o,h.get? b=some o→H b=none→b∈fs→b∉ex→∃sl,h'.get? b=some {o with slots:=sl}
  free:∀b o,h.get? b=some o→H b=none→b∉ex→H' b=none
  there:∀b o,h.get? b=some o→b∉ex→∃o',h'.get? b=some o'
  tups:∀b xs,H b=some (.tup xs)→H' b=some (.tup xs)
  frzs:∀b o u,H b=some (.frz o u)→H' b=some (.frz o u)
  tbls:∀b ps,H b=some (.tbl ps)→∃more,H' b=some (.tbl (ps++more))
section
variable{fs fs' ex ex':List xM}{H H1 H2:Hp}{h h1 h2 h':PL}{a x e:xM}{o:HO}
theorem Un.any(u:Un fs ex H H1 h h1){b:xM}{ob:Obj}(q:h.get? b=some ob)(n:H b=none)(hx:b∉ex):∃sl,h1.get? b=some {ob with slots:=sl}:=by
  by_cases hb:b∈fs
  · exact u.slot b ob q n hb hx
  · exact⟨ob.slots,u.keep b ob q n hb hx⟩
theorem Un.kept(k:∀b u,h.get? b=some u→h'.get? b=some u):Un fs ex H H h h':=
  ⟨fun b ob q _ _ _=>k b ob q,fun b ob q _ _ _=>⟨ob.slots,k b ob q⟩,fun _ _ _ n _=>n,fun b ob q _=>⟨ob,k b ob q⟩,fun _ _ q=>q,fun _ _ _ q=>q,fun _ ps q=>⟨#[],by rw [q];simp⟩⟩
theorem Un.refl:Un fs ex H H h h:=Un.kept fun _ _ q=>q
theorem Un.laid(k:∀b u,h.get? b=some u→h'.get? b=some u)(hp:h.objs.size≤a)(hn:H a=none):Un fs ex H (cy H a o) h h' where
  keep:=fun b u q _ _ _=>k b u q
  slot:=fun b u q _ _ _=>⟨u.slots,k b u q⟩
  free:=fun b u q n _=>by rw [aY (QH (QG (Qg q) hp))];exact n
  there:=fun b u q _=>⟨u,k b u q⟩
  tups:=fun b xs q=>by rw [aY (fM q hn)];exact q
  frzs:=fun b u xs q=>by rw [aY (fM q hn)];exact q
  tbls:=fun b ps q=>⟨#[],by rw [aY (fM q hn),q];simp⟩
theorem Un.write(mu:Ki (H x))(he:e=x∨H e=some (.own x))(k:∀b u,b≠e→h.get? b=some u→h'.get? b=some u)(heo:∃u,h'.get? e=some u):Un fs ex H (cy H x o) h h':=by
  have hx:∀b,H b=none→b≠x:=fun b n z=>by subst z;rw [n] at mu;exact mu
  have hb:∀b,H b=none→b≠e:=fun b n z=>by
    subst z
    rcases he with r | r
    · exact hx b n r
    · rw [n] at r;cases r
  have hm:∀b u,H b=some u→¬Ki (some u)→b≠x:=fun b u q nm z=>by subst z;rw [q] at mu;exact nm mu
  refine⟨fun b u q n _ _=>k b u (hb b n) q,fun b u q n _ _=>⟨u.slots,k b u (hb b n) q⟩,fun b u q n _=>by rw [aY (hx b n)];exact n,fun b u q _=>?_,
    fun b xs q=>by rw [aY (hm b _ q fun z=>z)];exact q,fun b u xs q=>by rw [aY (hm b _ q fun z=>z)];exact q,fun b ps q=>⟨#[],by rw [aY (hm b _ q fun z=>z),q];simp⟩⟩
  by_cases hbe:b=e
  · subst hbe;exact heo
  · exact⟨u,k b u hbe q⟩
end
def Kt(h:PL)(H:Hp):List xM:=(QM h.objs.size).filter fun a=>(H a).isSome
def tQ(h:PL)(H:Hp):PL:=PySem.W.hideAll h (Kt h H)
theorem ze(h:PL)(H:Hp):(tQ h H).objs.size=h.objs.size:=PySem.W.hideAll_size _ _
theorem Ao{h:PL}{H:Hp}{b:xM}{o:Obj}(e:h.get? b=some o)(n:H b=none):(tQ h H).get? b=some o:=
  PySem.W.hideAll_get _ e fun hm=>by
    have q:(H b).isSome=true:=(RV.mp hm).2
    rw [n] at q;simp at q
theorem Dd{h:PL}{H:Hp}{b:xM}{o:Obj}(e:(tQ h H).get? b=some o):h.get? b=some o∧H b=none:=by
  have e':h.get? b=some o:=PySem.W.of_hideAll (Kt h H) e
  refine⟨e',?_⟩
  cases q:H b with
  | none=>rfl
  | some x=>
    have hm:b∈Kt h H:=RV.mpr ⟨Sl.mpr (Qg e'),by simp [q]⟩
    have z:(tQ h H).get? b=none:=PySem.W.hideAll_none (Kt h H) hm
    rw [z] at e;cases e
def sY(g h:PL)(L:xM):List (xM × Obj):=(QM h.objs.size).filterMap fun a=>if a=L∨(g.get? a).isSome=true then none else(h.get? a).map fun o=>(a,o)
theorem qd{g h:PL}{L:xM}{p:xM × Obj}(hp:p∈sY g h L):p.1≠L∧g.get? p.1=none∧h.get? p.1=some p.2:=by
  obtain⟨b,_,e⟩:=Tt.mp hp
  split at e
  · cases e
  · rename_i hn
    cases q:h.get? b with
    | none=>rw [q] at e;simp at e
    | some u=>
      rw [q] at e
      simp only [Qy,Sk] at e
      subst e
      refine⟨fun z=>hn (.inl z),?_,q⟩
      show g.get? b=none
      cases r:g.get? b with
      | none=>rfl
      | some v=>exact(hn (.inr (by simp [r]))).elim
def cH(g h:PL)(L d:xM):List (xM × Obj):=(sY g h L).filter fun p=>decide (p.1≠d)
theorem AM{g h:PL}{L:xM}:News g L h (sY g h L):=fun p hp=>let ⟨a,b,c⟩:=qd hp;⟨c,a,b⟩
structure Mod (K:PF) (mg:Str→Option MG) (base:PL):Prop where
  kin:K.In base
  glob:base.Ns Qn mg
  blt:∃mb,base.Ns builtinsNs mb∧∀x:Str,x≠"__name__"→mb x=Rt x
  nolimit:base.NoLimit
structure Cx where
  prog:PK
  w:PJ
  K:PF
  mg:Str→Option MG
  base:PL
  A:PP
  N:List Str
  s₀:PB
  H₀:Hp
  env:Env
  outer:List Env
  stack:List Env
  ex:List xM
  fn:Str→Bool
  calm:Bool
  pn:List (xM × Obj)
  xe:MG→PB→Prop
def Ac(l:List Env):List xM:=l.filterMap (·.frame)
abbrev Cx.fs(X:Cx):List xM:=Ac X.outer
def Iq(sc:Qm)(x:Str):Prop:=sc.names.lookup x=some .local∨sc.names.lookup x=some .cell∨sc.names.lookup x=some .free
def Cv(sc:Qm)(x:Str):Prop:=sc.names.lookup x=some .local∨sc.names.lookup x=some .cell
def KB(env:Env)(h:PL)(m:Str→Option MG)(x:Str)(u:MG):Prop:=
  (env.kindOf x=some .local∧m x=some u)∨((env.kindOf x=some .cell∨env.kindOf x=some .free)∧∃c,env.cells.lookup x=some c∧h.IsCell c (some u))
structure Cx.Ok (X:Cx):Prop where
  mod:Mod X.K X.mg X.base
  kind:X.env.scope.kind=.function
  glob:X.env.globals=Qn
  blt:X.env.builtins=builtinsNs
  above:X.s₀.heap.objs.size≤X.env.locals
  inj:∀x y c,X.env.cells.lookup x=some c→X.env.cells.lookup y=some c→x=y
  has:∀x,(X.env.kindOf x=some .cell∨X.env.kindOf x=some .free)→∃c,X.env.cells.lookup x=some c
  cab:∀x c,X.fn x=true→X.env.cells.lookup x=some c→X.s₀.heap.objs.size≤c
  hd:X.calm=true→X.A.handled=none
  frames:X.A.frames=some X.stack
  stk:X.stack=X.outer∨(X.stack=X.env::X.outer∧X.env.frame=some X.env.locals)
  exf:∀b∈X.ex,b≠X.env.locals∧∀x c,X.env.cells.lookup x=some c→c≠b
  bs:∀b o,X.base.get? b=some o→X.s₀.heap.get? b=some o∧X.H₀ b=none
  bsz:X.base.objs.size≤X.s₀.heap.objs.size
  noex:∀b o,X.base.get? b=some o→b∉X.ex
  exfs:∀b∈X.ex,b∉X.fs
  funs:X.s₀.heap.FunFrames X.base X.outer
  frf:∀b∈X.fs,X.H₀ b=none
structure aN (X:Cx) (pins:List (xM × Obj)) (σ:List (Option V)) (H:Hp) (s:PB):Prop where
  ok:X.Ok
  os:s.os=X.s₀.os
  bare:AllBare s.gens
  base:Un X.fs X.ex X.H₀ H X.s₀.heap s.heap
  loc:∃m,s.heap.Ns X.env.locals m∧∀(i:Nat) (x:Str) (v:V),X.N[i]?=some x→σ[i]?=some (some v)→Iq X.env.scope x→∃u,bN v u∧KB X.env s.heap m x u
  cell:∀x c,X.env.cells.lookup x=some c→∃v,s.heap.IsCell c v
  free:H X.env.locals=none
  freeC:∀x c,X.env.cells.lookup x=some c→H c=none
  pin:∀p∈X.pn++pins,s.heap.get? p.1=some p.2∧H p.1=none∧p.1≠X.env.locals∧p.1∉X.fs∧∀v,p.2.data≠.cell v
  hok:oY X.prog X.w H s.heap
  len:σ.length=X.N.length
section
variable{X:Cx}{pins:List (xM × Obj)}{σ:List (Option V)}{H H':Hp}{s:PB}{h':PL}
theorem Cx.Ok.nofr(ok:X.Ok){b:xM}{o:Obj}(e:X.base.get? b=some o):b∉X.fs:=fun hb=>by
  have:=(ok.funs.mem hb).1
  rw [e] at this;cases this
theorem aN.bs(I:aN X pins σ H s):∀b o,X.base.get? b=some o→s.heap.get? b=some o∧H b=none:=fun b o e=>
  ⟨I.base.keep b o (I.ok.bs b o e).1 (I.ok.bs b o e).2 (I.ok.nofr e) (I.ok.noex b o e),I.base.free b o (I.ok.bs b o e).1 (I.ok.bs b o e).2 (I.ok.noex b o e)⟩
theorem aN.bk(I:aN X pins σ H s):∀b o,X.base.get? b=some o→s.heap.get? b=some o:=fun b o e=>(I.bs b o e).1
theorem aN.mod(I:aN X pins σ H s):Mod X.K X.mg X.base:=I.ok.mod
theorem aN.kIn(I:aN X pins σ H s):X.K.In s.heap:=I.ok.mod.kin.keeps I.bk
theorem aN.fr(I:aN X pins σ H s):∃m,Fr X.base X.env.locals s.heap m:=
  let ⟨m,hn,_⟩:=I.loc
  ⟨m,hn,I.bk,Qq I.ok.bsz I.ok.above⟩
theorem aN.lt(I:aN X pins σ H s):X.env.locals < s.heap.objs.size:=let ⟨_,hn,_⟩:=I.loc;hn.lt
theorem aN.sz(I:aN X pins σ H s):X.s₀.heap.objs.size≤s.heap.objs.size:=Qq I.ok.above (Sm I.lt)
theorem aN.nofs(I:aN X pins σ H s){a:xM}(h:s.heap.objs.size≤a):a∉X.fs:=fun hb=>by
  obtain⟨_,o,ho,_⟩:=I.ok.funs.mem hb
  exact absurd (QG (Qg ho) (Qq I.sz h)) (RU _)
theorem aN.cne(I:aN X pins σ H s):∀x c,X.env.cells.lookup x=some c→c≠X.env.locals:=fun x c e z=>by
  obtain⟨v,o,ho,hd⟩:=I.cell x c e
  obtain⟨m,⟨o',es,ep,ho',hd',_⟩,_⟩:=I.loc
  rw [z,ho'] at ho;cases ho;rw [hd'] at hd;cases hd
theorem aN.funs(I:aN X pins σ H s):s.heap.FunFrames X.base X.outer:=by
  have all:∀(l:List Env),(∀b∈Ac l,b∈X.fs)→X.s₀.heap.FunFrames X.base l→s.heap.FunFrames X.base l:=by
    intro l
    induction l with
    | nil=>intro _ _;trivial
    | cons env r ih=>
      intro hs hl
      obtain⟨hk,⟨L,o,hf,hn,ho,hd⟩,hr⟩:=hl
      have hL:L∈X.fs:=hs L (by unfold Ac;rw [Uk,hf];exact RG)
      obtain⟨sl,e⟩:=I.base.slot L o ho (I.ok.frf L hL) hL fun z=>I.ok.exfs L z hL
      exact⟨hk,⟨L,_,hf,hn,e,hd⟩,ih (fun b hb=>hs b (by unfold Ac;rw [Uk,hf];exact QV _ hb)) hr⟩
  exact all X.outer (fun _ hb=>hb) I.ok.funs
theorem aN.stack(I:aN X pins σ H s):s.heap.FunFrames X.base X.stack:=by
  rcases I.ok.stk with e | ⟨e,hf⟩
  · rw [e];exact I.funs
  · rw [e]
    obtain⟨m,hn,_⟩:=I.loc
    refine .cons (by rw [I.ok.kind];decide) hf hn ?_ I.funs
    exact Heap.get?_none_of_le (Qq I.ok.bsz I.ok.above)
theorem aN.stkSub(I:aN X pins σ H s):∀b∈Ac X.stack,b∈X.env.locals::X.fs:=fun b hb=>by
  rcases I.ok.stk with e | ⟨e,hf⟩
  · rw [e] at hb;exact QV _ hb
  · rw [e] at hb
    unfold Ac at hb
    rw [Uk,hf] at hb
    exact hb
theorem aN.stkFree(I:aN X pins σ H s):∀b∈Ac X.stack,H b=none:=fun b hb=>by
  rcases Px (I.stkSub b hb) with e | hb
  · rw [e];exact I.free
  · obtain⟨_,o,ho,_⟩:=I.ok.funs.mem hb
    exact I.base.free b o ho (I.ok.frf b hb) fun z=>I.ok.exfs b z hb
theorem aN.step{g':Array GenState}{t':Nat}{d':Drawn}{ch:List xM}(I:aN X pins σ H s)
    (hch:∀b∈ch,(b∈X.ex∨X.s₀.heap.objs.size≤b)∧b≠X.env.locals∧(∀x c,X.env.cells.lookup x=some c→c≠b)∧∀p∈X.pn++pins,p.1≠b)
    (keep:∀b o,b≠X.env.locals→b∉X.fs→b∉ch→s.heap.get? b=some o→H b=none→h'.get? b=some o)
    (slot:∀b o,b≠X.env.locals→b∈X.fs→b∉ch→s.heap.get? b=some o→H b=none→∃sl,h'.get? b=some {o with slots:=sl})(free:∀b o,b∉ch→s.heap.get? b=some o→H b=none→H' b=none)
    (there:∀b o,b∉ch→s.heap.get? b=some o→∃o',h'.get? b=some o')
    (tups:∀b xs,H b=some (.tup xs)→H' b=some (.tup xs))(frzs:∀b o u,H b=some (.frz o u)→H' b=some (.frz o u))(tbls:∀b ps,H b=some (.tbl ps)→∃more,H' b=some (.tbl (ps++more)))
    (ns:∀m,s.heap.Ns X.env.locals m→h'.Ns X.env.locals m)(hok:oY X.prog X.w H' h')(hg:AllBare g'):
    aN X pins σ H' {s with heap:=h',gens:=g',drawn:=d',toks:=t'}:=by
  have neL:∀b o,X.s₀.heap.get? b=some o→b≠X.env.locals:=fun b o e=>QH (QG (Qg e) I.ok.above)
  have neC:∀b o,X.s₀.heap.get? b=some o→b∉X.ex→b∉ch:=fun b o e hx hb=>by
    rcases(hch b hb).1 with z | z
    · exact hx z
    · exact absurd (QG (Qg e) z) (RU _)
  have cellK:∀x c,X.env.cells.lookup x=some c→∀v,s.heap.IsCell c v→h'.IsCell c v:=fun x c e v ⟨o,ho,hd⟩=>by
    have nch:c∉ch:=fun z=>(hch c z).2.2.1 x c e rfl
    by_cases hc:c∈X.fs
    · obtain⟨sl,q⟩:=slot c o (I.cne x c e) hc nch ho (I.freeC x c e)
      exact⟨_,q,hd⟩
    · exact⟨o,keep c o (I.cne x c e) hc nch ho (I.freeC x c e),hd⟩
  refine⟨I.ok,I.os,hg,⟨fun b o e n hb hx=>?_,fun b o e n hb hx=>?_,fun b o e n hx=>?_,fun b o e hx=>?_,fun b xs e=>tups b xs (I.base.tups b xs e),fun b o xs e=>frzs b o xs (I.base.frzs b o xs e),fun b ps e=>?_⟩,?_,fun x c e=>?_,?_,fun x c e=>?_,fun p hp=>?_,hok,I.len⟩
  · exact keep b o (neL b o e) hb (neC b o e hx) (I.base.keep b o e n hb hx) (I.base.free b o e n hx)
  · obtain⟨sl,e1⟩:=I.base.slot b o e n hb hx
    obtain⟨sl',e2⟩:=slot b _ (neL b o e) hb (neC b o e hx) e1 (I.base.free b o e n hx)
    exact⟨sl',e2⟩
  · obtain⟨o',e1⟩:=I.base.there b o e hx
    exact free b o' (neC b o e hx) e1 (I.base.free b o e n hx)
  · obtain⟨o',e1⟩:=I.base.there b o e hx
    exact there b o' (neC b o e hx) e1
  · obtain⟨m1,e1⟩:=I.base.tbls b ps e
    obtain⟨m2,e2⟩:=tbls b _ e1
    exact⟨m1++m2,by rw [e2,Array.append_assoc]⟩
  · obtain⟨m,hn,hl⟩:=I.loc
    refine⟨m,ns m hn,fun i x v e1 e2 e3=>?_⟩
    obtain⟨u,r,l⟩:=hl i x v e1 e2 e3
    refine⟨u,r,?_⟩
    rcases l with l | ⟨k,c,e,z⟩
    · exact .inl l
    · exact .inr ⟨k,c,e,cellK x c e _ z⟩
  · obtain⟨v,z⟩:=I.cell x c e
    exact⟨v,cellK x c e v z⟩
  · obtain⟨m,⟨o,_,_,ho,_⟩,_⟩:=I.loc
    exact free _ o (fun z=>(hch _ z).2.1 rfl) ho I.free
  · obtain⟨v,o,ho,hd⟩:=I.cell x c e
    exact free c o (fun z=>(hch c z).2.2.1 x c e rfl) ho (I.freeC x c e)
  · obtain⟨e,n,ne,nf,d⟩:=I.pin p hp
    have nch:p.1∉ch:=fun z=>(hch p.1 z).2.2.2 p hp rfl
    exact⟨keep p.1 p.2 ne nf nch e n,free p.1 p.2 nch e n,ne,nf,d⟩
theorem aN.un{t':Nat}(I:aN X pins σ H s)(u:Un X.fs [] H H' s.heap h')(hok:oY X.prog X.w H' h'):aN X pins σ H' {s with heap:=h',toks:=t'}:=by
  obtain⟨m,⟨o,es,ep,ho,r⟩,_⟩:=id I.loc
  obtain⟨sl,hL⟩:=u.any ho I.free (by simp)
  exact I.step (g':=s.gens) (d':=s.drawn) (ch:=[]) (fun _ z=>nomatch z) (fun b o _ hb _ e n=>u.keep b o e n hb (by simp)) (fun b o _ hb _ e n=>u.slot b o e n hb (by simp)) (fun b o _ e n=>u.free b o e n (by simp)) (fun b o _ e=>u.there b o e (by simp)) u.tups u.frzs u.tbls (fun m' hm=>by
    obtain⟨o',es',ep',ho',r'⟩:=hm
    rw [ho] at ho';cases ho'
    exact⟨_,es',ep',hL,r'⟩) hok I.bare
theorem aN.call{g':Array GenState}{t':Nat}{d':Drawn}{ch:List xM}(I:aN X pins σ H s)(u:Un (Ac X.stack) ch H H' s.heap h')(hok:oY X.prog X.w H' h')(hg:AllBare g')
    (hch:∀b∈ch,(b∈X.ex∨X.s₀.heap.objs.size≤b)∧b≠X.env.locals∧(∀x c,X.env.cells.lookup x=some c→c≠b)∧∀p∈X.pn++pins,p.1≠b):
    aN X pins σ H' {s with heap:=h',gens:=g',drawn:=d',toks:=t'}:=by
  obtain⟨m,⟨o,es,ep,ho,r⟩,_⟩:=id I.loc
  obtain⟨sl,hL⟩:=u.any ho I.free fun z=>(hch _ z).2.1 rfl
  exact I.step (ch:=ch) hch (fun b o hL hb hc e n=>u.keep b o e n (fun z=>(Px (I.stkSub b z)).elim hL hb) hc) (fun b o _ _ hc e n=>u.any e n hc) (fun b o hc e n=>u.free b o e n hc) (fun b o hc e=>u.there b o e hc) u.tups u.frzs u.tbls (fun m' hm=>by
    obtain⟨o',es',ep',ho',r'⟩:=hm
    rw [ho] at ho';cases ho'
    exact⟨_,es',ep',hL,r'⟩) hok hg
theorem aN.turned{t':Nat}{it:xM}(I:aN X pins σ H s)(k:∀b o,b≠it→s.heap.get? b=some o→h'.get? b=some o)(hn:H it=none)(hL:it≠X.env.locals)
    (h1:it∈X.ex∨X.s₀.heap.objs.size≤it)(h2:∀x c,X.env.cells.lookup x=some c→c≠it)(h3:∀p∈X.pn++pins,p.1≠it):aN X pins σ H {s with heap:=h',toks:=t'}:=by
  have nit:∀b u,H b=some u→b≠it:=fun b u e z=>by rw [z,hn] at e;cases e
  refine I.step (g':=s.gens) (d':=s.drawn) (ch:=[it]) (fun b hb=>?_) (fun b o _ _ hc e _=>k b o (fun z=>hc (by simp [z])) e) (fun b o _ _ hc e _=>⟨o.slots,k b o (fun z=>hc (by simp [z])) e⟩) (fun _ _ _ _ n=>n)
    (fun b o hc e=>⟨o,k b o (fun z=>hc (by simp [z])) e⟩) (fun _ _ e=>e) (fun _ _ _ e=>e) (fun b ps e=>⟨#[],by rw [e];simp⟩) (fun m hm=>?_) (fun b u e=>?_) I.bare
  · have e:b=it:=by simpa using hb
    subst e
    exact⟨h1,hL,h2,h3⟩
  · obtain⟨o,es,ep,ho,r⟩:=hm
    exact⟨o,es,ep,k _ o (QN hL) ho,r⟩
  · refine(I.hok b u e).stay (fun c v hc q=>k c v ?_ q) (fun _ q=>q) fun _ _ q=>q
    rcases hc with z | z
    · rw [z];exact nit b u e
    · exact nit c _ z
theorem aN.tok(I:aN X pins σ H s)(t:Nat):aN X pins σ H {s with toks:=t}:=I.un (h':=s.heap) (t':=t) Un.refl I.hok
theorem aN.kept{t':Nat}(I:aN X pins σ H s)(k:∀b u,s.heap.get? b=some u→h'.get? b=some u):aN X pins σ H {s with heap:=h',toks:=t'}:=I.un (Un.kept k) (I.hok.kept k)
theorem aN.laid{a:xM}{o:HO}{t':Nat}(I:aN X pins σ H s)(k:∀b u,s.heap.get? b=some u→h'.get? b=some u)(hp:s.heap.objs.size≤a)(new:gO X.prog X.w (cy H a o) h' a o):
    aN X pins σ (cy H a o) {s with heap:=h',toks:=t'}:=I.un (Un.laid k hp (I.hok.fresh hp)) (I.hok.laid k hp new)
theorem aN.write{x e:xM}{o:HO}{t':Nat}(I:aN X pins σ H s)(mu:Ki (H x))(he:e=x∨H e=some (.own x))(k:∀b u,b≠e→s.heap.get? b=some u→h'.get? b=some u)(heo:∃u,h'.get? e=some u)
    (new:gO X.prog X.w (cy H x o) h' x o):aN X pins σ (cy H x o) {s with heap:=h',toks:=t'}:=I.un (Un.write mu he k heo) (I.hok.write mu he k heo new)
theorem aN.pins_of{pins':List (xM × Obj)}(I:aN X pins σ H s)(h:∀p∈pins',s.heap.get? p.1=some p.2∧H p.1=none∧p.1≠X.env.locals∧p.1∉X.fs∧∀v,p.2.data≠.cell v):aN X pins' σ H s:=
  ⟨I.ok,I.os,I.bare,I.base,I.loc,I.cell,I.free,I.freeC,fun p hp=>(Pv hp).elim (fun z=>I.pin p (List.mem_append_left _ z)) (h p),I.hok,I.len⟩
theorem vt{N:List Str}(hN:N.Nodup){i j:Nat}{x:Str}(a:N[i]?=some x)(b:N[j]?=some x):i=j:=by
  obtain⟨h1,e1⟩:=Pu a
  obtain⟨h2,e2⟩:=Pu b
  exact(List.getElem_inj hN).mp (e1.trans e2.symm)
theorem zE{M:Model}{A:PP}{E:MG→PB→Prop}{i:Nat}{x:Str}{v:V}{u:MG}{Q:Unit→PB→Prop}(I:aN X pins σ H s)(hN:X.N.Nodup)(hi:X.N[i]?=some x)(hx:Cv X.env.scope x)(r:bN v u)
    (h:∀s',aN X pins (σ.set i (some v)) H s'→(∃a,SJ a s.heap s'.heap∧(a=X.env.locals∨X.env.cells.lookup x=some a))→Q () s')(hf:X.fn x=true∨X.env.scope.names.lookup x=some .local:=by first | exact .inl rfl | exact .inr rfl | assumption):PM M A (storeName X.env x u) Q E s:=by
  obtain⟨m,hn,hl⟩:=id I.loc
  have hcls:(X.env.scope.kind==.class || (X.env.scope.kind==.module&&X.env.locals != X.env.globals))=false:=by rw [I.ok.kind];rfl
  have hiσ:i < σ.length:=by rw [I.len];exact(Pu hi).1
  have cne:=I.cne
  have tracked:∀{a:xM} {h':PL},(∃o,s.heap.get? a=some o∧H a=none)→SJ a s.heap h'→oY X.prog X.w H h':=fun{a h'} ha hs b ob e=>by
    obtain⟨_,_,hfree⟩:=ha
    refine(I.hok b ob e).stay (fun c w' hc q=>(hs.2 c ?_).trans q) (fun _ q=>q) fun _ _ q=>q
    rintro rfl
    rcases hc with rfl | hc
    · rw [hfree] at e;cases e
    · rw [hfree] at hc;cases hc
  rcases hx with hk | hk
  · refine wpAny_storeName_local hk hn (fun h' hn' hs=>?_) hcls
    obtain⟨oL,_,_,hoL,_⟩:=id hn
    refine h _ ⟨I.ok,I.os,I.bare,⟨fun b o e n hb hx=>?_,fun b o e n hb hx=>?_,I.base.free,fun b o e hx=>?_,I.base.tups,I.base.frzs,I.base.tbls⟩,⟨_,hn',fun j y v' e1 e2 e3=>?_⟩,fun y c e=>?_,I.free,I.freeC,fun p hp=>?_,tracked ⟨oL,hoL,I.free⟩ hs,by simpa using I.len⟩ ⟨_,hs,.inl rfl⟩
    · exact(hs.2 b (QH (QG (Qg e) I.ok.above))).trans (I.base.keep b o e n hb hx)
    · obtain⟨sl,e1⟩:=I.base.slot b o e n hb hx
      exact⟨sl,(hs.2 b (QH (QG (Qg e) I.ok.above))).trans e1⟩
    · obtain⟨o',e1⟩:=I.base.there b o e hx
      exact⟨o',(hs.2 b (QH (QG (Qg e) I.ok.above))).trans e1⟩
    · by_cases hj:j=i
      · subst hj
        rw [hi] at e1;cases e1
        rw [Ru hiσ] at e2
        cases e2
        exact⟨u,r,.inl ⟨hk,by simp⟩⟩
      · rw [Ql (QN hj)] at e2
        obtain⟨u',r',q⟩:=hl j y v' e1 e2 e3
        refine⟨u',r',?_⟩
        rcases q with ⟨k,e⟩ | ⟨k,c,e,z⟩
        · refine .inl ⟨k,?_⟩
          have:y≠x:=fun e=>hj (vt hN e1 (e ▸ hi))
          simp [this,e]
        · exact .inr ⟨k,c,e,z.sameBut hs (cne y c e)⟩
    · obtain⟨w',z⟩:=I.cell y c e
      exact⟨w',z.sameBut hs (cne y c e)⟩
    · obtain⟨e,n,ne,nf,d⟩:=I.pin p hp
      exact⟨(hs.2 p.1 ne).trans e,n,ne,nf,d⟩
  · have hfn:X.fn x=true:=by
      rcases hf with z | z
      · exact z
      · rw [z] at hk;cases hk
    obtain⟨c,hc⟩:=I.ok.has x (.inl hk)
    obtain⟨w',z⟩:=I.cell x c hc
    refine wpAny_storeName_cell I.ok.kind hk hc z (fun h' hc' hs=>?_)
    obtain⟨oc,hoc,hocd⟩:=id z
    refine h {s with heap:=h'} ⟨I.ok,I.os,I.bare,⟨fun b o e n hb hx=>?_,fun b o e n hb hx=>?_,I.base.free,fun b o e hx=>?_,I.base.tups,I.base.frzs,I.base.tbls⟩,⟨m,hn.sameBut hs (QN (cne x c hc)),fun j y v' e1 e2 e3=>?_⟩,fun y c' e=>?_,I.free,I.freeC,fun p hp=>?_,tracked ⟨oc,hoc,I.freeC x c hc⟩ hs,by simpa using I.len⟩ ⟨c,hs,.inr hc⟩
    · exact(hs.2 b (QH (QG (Qg e) (I.ok.cab x c hfn hc)))).trans (I.base.keep b o e n hb hx)
    · obtain⟨sl,e1⟩:=I.base.slot b o e n hb hx
      exact⟨sl,(hs.2 b (QH (QG (Qg e) (I.ok.cab x c hfn hc)))).trans e1⟩
    · obtain⟨o',e1⟩:=I.base.there b o e hx
      exact⟨o',(hs.2 b (QH (QG (Qg e) (I.ok.cab x c hfn hc)))).trans e1⟩
    · by_cases hj:j=i
      · subst hj
        rw [hi] at e1;cases e1
        rw [Ru hiσ] at e2
        cases e2
        exact⟨u,r,.inr ⟨.inl hk,c,hc,hc'⟩⟩
      · rw [Ql (QN hj)] at e2
        obtain⟨u',r',q⟩:=hl j y v' e1 e2 e3
        refine⟨u',r',?_⟩
        rcases q with q | ⟨k,c',e,z'⟩
        · exact .inl q
        · refine .inr ⟨k,c',e,z'.sameBut hs ?_⟩
          rintro rfl
          exact hj (vt hN e1 (I.ok.inj _ _ _ e hc ▸ hi))
    · by_cases hcc:c'=c
      · subst hcc;exact⟨_,hc'⟩
      · obtain⟨w2,z2⟩:=I.cell y c' e
        exact⟨w2,z2.sameBut hs hcc⟩
    · obtain⟨e,n,ne,nf,d⟩:=I.pin p hp
      refine⟨(hs.2 p.1 ?_).trans e,n,ne,nf,d⟩
      intro q
      rw [q,hoc] at e
      have q':oc=p.2:=QO e
      exact d w' (by rw [←q'];exact hocd)
theorem nu{M:Model}{A:PP}{E:MG→PB→Prop}{i:Nat}{x:Str}{v:V}{u:MG}{Q:Unit→PB→Prop}(I:aN X pins σ H s)(hN:X.N.Nodup)(hi:X.N[i]?=some x)(hx:Cv X.env.scope x)(r:bN v u)
    (h:∀s',aN X pins (σ.set i (some v)) H s'→Q () s')(hf:X.fn x=true∨X.env.scope.names.lookup x=some .local:=by first | exact .inl rfl | exact .inr rfl | assumption):PM M A (storeName X.env x u) Q E s:=
  zE I hN hi hx r (fun s' I' _=>h s' I') hf
theorem aN.call'{s':PB}{ch:List xM}(I:aN X pins σ H s)(ho:s'.os=s.os)(u:Un (Ac X.stack) ch H H' s.heap s'.heap)(hok:oY X.prog X.w H' s'.heap)(hg:AllBare s'.gens)
    (hch:∀b∈ch,(b∈X.ex∨X.s₀.heap.objs.size≤b)∧b≠X.env.locals∧(∀x c,X.env.cells.lookup x=some c→c≠b)∧∀p∈X.pn++pins,p.1≠b):aN X pins σ H' s':=by
  obtain⟨h',g',d',t',o'⟩:=s'
  have e:o'=s.os:=ho
  subst e
  exact I.call (g':=g') (t':=t') (d':=d') u hok hg hch
end
abbrev XK:=MG→Option xM→Hp→Prop
abbrev St:=List (Option V)
abbrev VK:=V→Hp→Prop
abbrev TE:=St→Hp→VK→Prop
abbrev TT:=St→Hp→(Bool→Hp→Prop)→Prop
abbrev TA:=St→Hp→(List V→Hp→Prop)→Prop
structure qX where
  nx:St→Hp→Prop
  rt:VK
  bk:St→Hp→Prop:=fun _ _=>False
  ct:St→Hp→Prop:=fun _ _=>False
abbrev TS:=qX→St→Hp→Prop
def EP(X:Cx)(pins:List (xM × Obj))(σ:St)(Q:VK)(u:MG)(s':PB):Prop:=∃v H',aN X pins σ H' s'∧bN v u∧Q v H'
def TP(X:Cx)(pins:List (xM × Obj))(σ:St)(Q:Bool→Hp→Prop)(b:Bool)(s':PB):Prop:=∃H',aN X pins σ H' s'∧Q b H'
def AP(X:Cx)(pins:List (xM × Obj))(σ:St)(Q:List V→Hp→Prop)(us:List MG)(s':PB):Prop:=∃vs H',aN X pins σ H' s'∧aV vs us∧Q vs H'
def SP(X:Cx)(pins:List (xM × Obj))(D:qX)(f:Flow)(s':PB):Prop:=
  match f with
  | .next=>∃σ' H',aN X pins σ' H' s'∧D.nx σ' H'
  | .brk=>∃σ' H',aN X pins σ' H' s'∧D.bk σ' H'
  | .cont=>∃σ' H',aN X pins σ' H' s'∧D.ct σ' H'
  | .ret u=>∃v σ' H',aN X pins σ' H' s'∧bN v u∧D.rt v H'
def PE(X:Cx)(e:PH)(t:TE):Prop:=
  ∀(pins:List (xM × Obj)) (s:PB) (σ:St) (H:Hp) (Q:VK),aN X pins σ H s→t σ H Q→PM (PQ X.prog X.w) X.A (PV e X.env) (EP X pins σ Q) X.xe s
def PT(X:Cx)(e:PH)(t:TT):Prop:=
  ∀(pins:List (xM × Obj)) (s:PB) (σ:St) (H:Hp) (Q:Bool→Hp→Prop),aN X pins σ H s→t σ H Q→PM (PQ X.prog X.w) X.A (isTrue e X.env (PV e X.env)) (TP X pins σ Q) X.xe s
def PW(X:Cx)(e:PH)(t:TT):Prop:=
  ∀(whole:Sem MG) (pins:List (xM × Obj)) (s:PB) (σ:St) (H:Hp) (Q:Bool→Hp→Prop),aN X pins σ H s→t σ H Q→PM (PQ X.prog X.w) X.A (isTrue e X.env whole) (TP X pins σ Q) X.xe s
theorem PW.pt{X:Cx}{e:PH}{t:TT}(h:PW X e t):PT X e t:=h _
def PA(X:Cx)(es:List PH)(t:TA):Prop:=
  ∀(pos:Pos) (pins:List (xM × Obj)) (s:PB) (σ:St) (H:Hp) (Q:List V→Hp→Prop),aN X pins σ H s→t σ H Q→PM (PQ X.prog X.w) X.A (spliced (Qf pos (PU es X.env))) (AP X pins σ Q) X.xe s
def PS(X:Cx)(st:PN)(t:TS):Prop:=
  ∀(pins:List (xM × Obj)) (s:PB) (σ:St) (H:Hp) (D:qX),aN X pins σ H s→t D σ H→PM (PQ X.prog X.w) X.A (exec st X.env) (SP X pins D) X.xe s
def kQ(X:Cx)(st:List PN)(t:TS):Prop:=
  ∀(pins:List (xM × Obj)) (s:PB) (σ:St) (H:Hp) (D:qX),aN X pins σ H s→t D σ H→PM (PQ X.prog X.w) X.A (execs st X.env) (SP X pins D) X.xe s
theorem cZ{α:Type}{t:Sem α}{Q Q':α→PB→Prop}{M:Model}{A:PP}{E:MG→PB→Prop}{s:PB}(h:PM M A t Q E s)(hQ:∀a s,Q a s→Q' a s):PM M A t Q' E s:=Re h hQ fun _ _ x=>x
section
variable{X:Cx}
def rB(i:Nat):TE:=fun σ H Q=>∃v,σ[i]?=some (some v)∧Q v H
def tC(v:V):TE:=fun _ H Q=>Q v H
theorem be{i:Nat}{x:Str}{pos:Pos}(hN:X.N[i]?=some x)(hv:Iq X.env.scope x)(hd:(x==("__debug__":Str))=false:=by decide)(hcd:(x==("__classdict__":Str))=false:=by decide):PE X (.Name x pos) (rB i):=by
  intro pins s σ H Q I h
  obtain⟨v,e,h⟩:=h
  obtain⟨m,hn,hl⟩:=I.loc
  obtain⟨u,r,l⟩:=hl i x v hN e hv
  have fin:EP X pins σ Q u s:=⟨v,H,I,r,h⟩
  rcases l with ⟨hk,hm⟩ | ⟨hk,c,hc,hcell⟩
  · exact wpAny_Name (wpAny_loadName_local I.ok.kind hk hn hm fin) hd
  · rcases hk with hk | hk
    · exact wpAny_Name (wpAny_loadName_cell I.ok.kind hk hc hcell fin) hd
    · exact wpAny_Name (wpAny_loadName_free I.ok.kind hk hc hcell fin hcd) hd
theorem G6{i j pos}:PE X (.Constant (.int i) j pos) (tC (.int i)):=fun _ _ _ H _ I h=>wpAny_Constant_int ⟨.int i,H,I.tok _,⟨_,rfl⟩,h⟩
theorem Js{b j pos}:PE X (.Constant (.bool b) j pos) (tC (.bl b)):=fun _ _ _ H _ I h=>Constant_bool ⟨.bl b,H,I,rfl,h⟩
theorem G8{j pos}:PE X (.Constant .none j pos) (tC .non):=fun _ _ _ H _ I h=>Constant_none ⟨.non,H,I,rfl,h⟩
theorem xq{x j pos}:PE X (.Constant (.str x) j pos) (tC (.str x)):=fun _ _ _ H _ I h=>Calls.Constant_str ⟨.str x,H,I.tok _,⟨_,rfl⟩,h⟩
def Gl(X:Cx)(x:Str):Prop:=X.env.kindOf x=some .globalImplicit
theorem mJ{E:MG→PB→Prop}{pins:List (xM × Obj)}{s:PB}{σ:St}{H:Hp}{x:Str}{u:MG}{pos:Pos}{Q:MG→PB→Prop}(I:aN X pins σ H s)(hg:Gl X x)(hm:X.mg x=some u)(h:Q u s)
    (hd:(x==("__debug__":Str))=false:=by decide):PM (PQ X.prog X.w) X.A (PV (.Name x pos) X.env) Q E s:=
  Calls.Name_function_global I.ok.kind hg (Calls.loadGlobal_global (by rw [I.ok.glob];exact I.mod.glob.keeps I.bk) hm h) hd
theorem t_{E:MG→PB→Prop}{pins:List (xM × Obj)}{s:PB}{σ:St}{H:Hp}{x:Str}{u:MG}{pos:Pos}{Q:MG→PB→Prop}(I:aN X pins σ H s)(hg:Gl X x)(hm:X.mg x=none)(hv:Rt x=some u)(h:Q u s)
    (hn:x≠"__name__":=by decide)(hd:(x==("__debug__":Str))=false:=by decide):PM (PQ X.prog X.w) X.A (PV (.Name x pos) X.env) Q E s:=by
  obtain⟨mb,h1,h2⟩:=I.mod.blt
  exact Calls.Name_function_global I.ok.kind hg (Calls.loadGlobal_builtin (by rw [I.ok.glob];exact I.mod.glob.keeps I.bk) hm (by rw [I.ok.blt];exact h1.keeps I.bk) ((h2 x hn).trans hv) h) hd
theorem DC{x:Str}{v:V}{u:MG}{pos:Pos}(hg:Gl X x)(hm:X.mg x=some u)(r:bN v u)(hd:(x==("__debug__":Str))=false:=by decide):PE X (.Name x pos) (tC v):=
  fun _ _ _ H _ I h=>mJ I hg hm ⟨v,H,I,r,h⟩ hd
variable{a b:PH}{ta tb:TE}{pos:Pos}
def PC(X:Cx)(op:CmpOp)(a b:PH)(t:TE):Prop:=
  ∀(pins:List (xM × Obj)) (s:PB) (σ:St) (H:Hp) (Q:VK),aN X pins σ H s→t σ H Q→
    PM (PQ X.prog X.w) X.A (PV a X.env) (fun v s₁=>PM (PQ X.prog X.w) X.A (PV b X.env) (fun u s₂=>PM (PQ X.prog X.w) X.A (QB op v u) (EP X pins σ Q) X.xe s₂) X.xe s₁) X.xe s
theorem AQ(b:PH){op:CmpOp}(h:op≠.In)(h2:op≠.NotIn):Rl op b=false:=by
  have e1:(op==CmpOp.In)=false:=by cases op<;>first | rfl | exact absurd rfl h
  have e2:(op==CmpOp.NotIn)=false:=by cases op<;>first | rfl | exact absurd rfl h2
  cases b<;>simp [Rl,e1,e2]
def tB(t:TE):TT:=fun σ H Q=>t σ H fun x H1=>∃c,x=.bl c∧Q c H1
theorem Hf{op:CmpOp}{t:TE}(h:PC X op a b t)(h1:Rl op b=false:=by first | exact AQ _ (by decide) (by decide) | rfl):PT X (.Compare a [op] [b] pos) (tB t):=by
  intro pins s σ H Q I hw
  refine wpAny_isTrue_Compare1 (cZ (h pins s σ H _ I hw) fun v s1 h1=>cZ h1 fun u s2 h2=>cZ h2 fun c s3 ⟨x,H1,I1,r1,q1⟩=>?_) h1
  obtain⟨d,rfl,q⟩:=q1
  cases r1
  exact SZ ⟨H1,I1,q⟩
theorem Bj{e:PH}{t:TE}(h:PE X e t)(he:∀whole,isTrue e X.env whole=(do let v ←whole;RH e.pos;Rm [v] (truthy v)):=by intro _;rfl):PT X e (tB t):=by
  intro pins s σ H Q I hw
  refine isTrue_plain (cZ (h pins s σ H _ I hw) fun v s1 ⟨x,H1,I1,r1,q1⟩=>?_) (he _)
  obtain⟨d,rfl,q⟩:=q1
  cases r1
  exact SZ ⟨H1,I1,q⟩
variable{tA tB':TT}{cH:List PH}
def HM(t u:TT):TT:=fun σ H Q=>t σ H fun c H1=>if c=true then u σ H1 Q else Q false H1
def Lu(t u:TT):TT:=fun σ H Q=>t σ H fun c H1=>if c=true then Q true H1 else u σ H1 Q
def J4(t:TT):TT:=fun σ H Q=>t σ H fun c H1=>Q (!c) H1
theorem yr(ha:PT X a tA):PW X (.BoolOp .And [a] pos) tA:=by
  intro wh pins s σ H Q I h
  refine isTrue_and (cZ (ha pins s σ H Q I h) fun c s1 e=>?_)
  cases c with
  | true=>exact isTrue_and_nil e
  | false=>exact e
theorem Bl(ha:PT X a tA):PW X (.BoolOp .Or [a] pos) tA:=by
  intro wh pins s σ H Q I h
  refine isTrue_or (cZ (ha pins s σ H Q I h) fun c s1 e=>?_)
  cases c with
  | false=>exact isTrue_or_nil e
  | true=>exact e
theorem Bk(ha:PT X a tA)(hb:PW X (.BoolOp .And (b::cH) pos) tB'):PW X (.BoolOp .And (a::b::cH) pos) (HM tA tB'):=by
  intro wh pins s σ H Q I h
  refine isTrue_and (cZ (ha pins s σ H _ I h) fun c s1 ⟨H1,I1,q1⟩=>?_)
  cases c with
  | true=>exact hb wh pins s1 σ H1 Q I1 q1
  | false=>exact⟨H1,I1,q1⟩
theorem EZ(ha:PT X a tA)(hb:PW X (.BoolOp .Or (b::cH) pos) tB'):PW X (.BoolOp .Or (a::b::cH) pos) (Lu tA tB'):=by
  intro wh pins s σ H Q I h
  refine isTrue_or (cZ (ha pins s σ H _ I h) fun c s1 ⟨H1,I1,q1⟩=>?_)
  cases c with
  | true=>exact⟨H1,I1,q1⟩
  | false=>exact hb wh pins s1 σ H1 Q I1 q1
theorem Bi(ha:PT X a tA):PT X (.UnaryOp .Not a pos) (J4 tA):=by
  intro pins s σ H Q I h
  exact isTrue_not (ha pins s σ H (fun c H1=>Q (!c) H1) I h)
def JY(ta tb:TE):TE:=fun σ H Q=>ta σ H fun x H1=>∃c,x=.bl c∧if c=true then tb σ H1 Q else Q (.bl false) H1
theorem G9{op}{t:TE}(h:PE X a t):PE X (.BoolOp op [a] pos) t:=fun pins s σ H Q I hw=>BoolOp_one (h pins s σ H Q I hw)
theorem G3(ha:PE X a ta)(hb:PE X (.BoolOp .And (b::cH) pos) tb):PE X (.BoolOp .And (a::b::cH) pos) (JY ta tb):=by
  intro pins s σ H Q I h
  refine BoolOp_and (cZ (ha pins s σ H _ I h) fun v s1 ⟨x,H1,I1,r1,q1⟩=>?_)
  obtain⟨c,rfl,q1⟩:=q1
  cases r1
  refine SZ ?_
  cases c with
  | true=>exact hb pins s1 σ H1 Q I1 q1
  | false=>exact⟨.bl false,H1,I1,rfl,q1⟩
def Mw(t:TT)(ta tb:TE):TE:=fun σ H Q=>t σ H fun c H1=>if c=true then ta σ H1 Q else tb σ H1 Q
theorem vE{c:PH}(hc:PT X c tA)(ha:PE X a ta)(hb:PE X b tb):PE X (.IfExp c a b pos) (Mw tA ta tb):=by
  intro pins s σ H Q I h
  refine wpAny_IfExp (cZ (hc pins s σ H _ I h) fun d s1 ⟨H1,I1,q1⟩=>?_)
  cases d with
  | true=>exact ha pins s1 σ H1 Q I1 q1
  | false=>exact hb pins s1 σ H1 Q I1 q1
end
def iJ(K:PF)(H:Hp)(a:xM)(xs:List V):Prop:=
  Rd H a (.lst xs)∨
    ∃(o:Obj) (its:Array MG) (n:Nat),K.lookup a=some o∧o.cls=.type "list"∧o.dict=none∧o.data=.seq its n∧its.size≤PY∧aV xs its.toList
def fB(K:PF)(H:Hp)(a:xM)(xs:List V):Prop:=
  Rd H a (.tup xs)∨
    ∃(o:Obj) (its:Array MG) (n:Nat),K.lookup a=some o∧o.cls=.type "tuple"∧o.dict=none∧o.data=.seq its n∧its.size≤PY∧aV xs its.toList
def KW:MG→Option V
  | .none=>some .non
  | .bool b=>some (.bl b)
  | .int i _=>some (.int i)
  | .str x _=>some (.str x)
  | .bytes b _=>some (.byt b)
  | .float b _=>some (.flt b)
  | .ref a=>some (.ref a)
  | .type n=>some (.ty n)
  | _=>none
theorem bN.abs{x:V}{u:MG}(r:bN x u):KW u=some x:=by
  cases x with
  | non=>cases r;rfl
  | bl _=>cases r;rfl
  | int _=>obtain⟨t,rfl⟩:=r;rfl
  | str _=>obtain⟨t,rfl⟩:=r;rfl
  | byt _=>obtain⟨t,rfl⟩:=r;rfl
  | flt _=>obtain⟨t,rfl⟩:=r;rfl
  | ref _=>cases r;rfl
  | ty _=>cases r;rfl
theorem bN.inj{x y:V}{u:MG}(r:bN x u)(q:bN y u):x=y:=QO (r.abs.symm.trans q.abs)
theorem aV.inj:∀{xs ys:List V} {us:List MG},aV xs us→aV ys us→xs=ys
  | _,_,_,.nil,.nil=>rfl
  | _,_,_,.cons r t,.cons r' t'=>by rw [r.inj r',aV.inj t t']
section
variable{X:Cx}{pins:List (xM × Obj)}{σ:St}{H:Hp}{s:PB}{a:xM}{xs ys:List V}
theorem iJ.of{K:PF}(h:H a=some (.lst xs)):iJ K H a xs:=.inl (.inl h)
theorem fB.of{K:PF}(h:H a=some (.tup xs)):fB K H a xs:=.inl (.inl h)
theorem aN.list(I:aN X pins σ H s)(h:iJ X.K H a xs):∃its:List MG,aV xs its∧PlainL s.heap a its.toArray∧xs.length≤PY:=by
  rcases h with h | ⟨o,its,n,hk,hc,hd,hs,hz,r⟩
  · obtain⟨z,its,n,r,e⟩:=h.ok I.hok
    exact⟨its,r,⟨_,n,e,rfl,rfl,rfl⟩,z⟩
  · refine⟨its.toList,r,⟨o,n,I.kIn a o hk,hc,hd,by simpa using hs⟩,?_⟩
    have e:=r.length
    simp only [Ul] at e
    lia
theorem aN.tuple(I:aN X pins σ H s)(h:fB X.K H a xs):∃its:List MG,aV xs its∧IsTup s.heap a its.toArray∧xs.length≤PY:=by
  rcases h with h | ⟨o,its,n,hk,hc,_,hs,hz,r⟩
  · obtain⟨z,its,r,p⟩:=h.ok I.hok
    exact⟨its,r,p.tup,z⟩
  · refine⟨its.toList,r,⟨o,I.kIn a o hk,hc,n,by simpa using hs⟩,?_⟩
    have e:=r.length
    simp only [Ul] at e
    lia
theorem aN.list_inj(I:aN X pins σ H s)(h:iJ X.K H a xs)(h':iJ X.K H a ys):xs=ys:=by
  obtain⟨its,r,⟨o,n,e,_,_,d⟩,_⟩:=I.list h
  obtain⟨its',r',⟨o',n',e',_,_,d'⟩,_⟩:=I.list h'
  rw [e] at e';cases e'
  rw [d] at d'
  injection d' with d1 _
  have:its=its':=by simpa using congrArg Array.toList d1
  subst this
  exact r.inj r'
theorem aN.tuple_inj(I:aN X pins σ H s)(h:fB X.K H a xs)(h':fB X.K H a ys):xs=ys:=by
  obtain⟨its,r,⟨o,e,_,n,d⟩,_⟩:=I.tuple h
  obtain⟨its',r',⟨o',e',_,n',d'⟩,_⟩:=I.tuple h'
  rw [e] at e';cases e'
  rw [d] at d'
  injection d' with d1 _
  have:its=its':=by simpa using congrArg Array.toList d1
  subst this
  exact r.inj r'
end
abbrev Cx.wish(X:Cx)(E:MG→PB→Prop):Cx:={X with xe:=E}
abbrev Cx.nox(X:Cx):Cx:=X.wish fun _ _=>False
theorem Cx.Ok.wish{X:Cx}(ok:X.Ok)(E:MG→PB→Prop):(X.wish E).Ok:=
  ⟨ok.mod,ok.kind,ok.glob,ok.blt,ok.above,ok.inj,ok.has,ok.cab,ok.hd,ok.frames,ok.stk,ok.exf,ok.bs,ok.bsz,ok.noex,ok.exfs,ok.funs,ok.frf⟩
theorem Cx.Ok.unwish{X:Cx}{E:MG→PB→Prop}(ok:(X.wish E).Ok):X.Ok:=
  ⟨ok.mod,ok.kind,ok.glob,ok.blt,ok.above,ok.inj,ok.has,ok.cab,ok.hd,ok.frames,ok.stk,ok.exf,ok.bs,ok.bsz,ok.noex,ok.exfs,ok.funs,ok.frf⟩
section
variable{X:Cx}{pins:List (xM × Obj)}{σ:St}{H:Hp}{s:PB}{E:MG→PB→Prop}
theorem aN.wish(I:aN X pins σ H s)(E:MG→PB→Prop):aN (X.wish E) pins σ H s:=⟨I.ok.wish E,I.os,I.bare,I.base,I.loc,I.cell,I.free,I.freeC,I.pin,I.hok,I.len⟩
theorem aN.unwish(I:aN (X.wish E) pins σ H s):aN X pins σ H s:=⟨I.ok.unwish,I.os,I.bare,I.base,I.loc,I.cell,I.free,I.freeC,I.pin,I.hok,I.len⟩
theorem SP.unwish{D:qX}{f:Flow}{s':PB}(h:SP (X.wish E) pins D f s'):SP X pins D f s':=by
  cases f with
  | next=>obtain⟨σ',H',I,q⟩:=h;exact⟨σ',H',I.unwish,q⟩
  | brk=>obtain⟨σ',H',I,q⟩:=h;exact⟨σ',H',I.unwish,q⟩
  | cont=>obtain⟨σ',H',I,q⟩:=h;exact⟨σ',H',I.unwish,q⟩
  | ret u=>obtain⟨v,σ',H',I,r,q⟩:=h;exact⟨v,σ',H',I.unwish,r,q⟩
theorem kQ.nox{st:List PN}{t:TS}(h:kQ X.nox st t):kQ X st t:=fun pins s σ H D I hw=>
  Re (h pins s σ H D (I.wish _) hw) (fun _ _ q=>q.unwish) fun _ _ z=>Rf z
end
section
variable{X:Cx}{st:PN}{cH:List PN}{t u:TS}{e:PH}{te:TE}{pos:Pos}
def J3:TS:=fun D σ H=>D.nx σ H
def Ly(t u:TS):TS:=fun D σ H=>t {D with nx:=u D} σ H
theorem yp:kQ X [] J3:=fun _ _ σ H _ I h=>Tu ⟨σ,H,I,h⟩
theorem qj(h1:PS X st t)(h2:kQ X cH u):kQ X (st::cH) (Ly t u):=by
  intro pins s σ H D I h
  refine wpAny_execs_cons (cZ (h1 pins s σ H {D with nx:=u D} I h) fun f s1 q=>?_)
  cases f with
  | next=>
    obtain⟨σ',H',I',q⟩:=q
    exact h2 pins s1 σ' H' D I' q
  | ret v=>exact q
  | brk=>exact q
  | cont=>exact q
theorem uk(h1:PS X st t):kQ X [st] t:=by
  intro pins s σ H D I h
  refine wpAny_execs_cons (cZ (h1 pins s σ H D I h) fun f s1 q=>?_)
  cases f with
  | next=>exact Tu q
  | ret v=>exact q
  | brk=>exact q
  | cont=>exact q
theorem aN.quiet{pins:List (xM × Obj)}{σ:St}{H:Hp}{s:PB}(I:aN X pins σ H s):interactive X.env=false:=by simp [interactive,I.ok.kind]
def J0(te:TE):TS:=fun D σ H=>te σ H fun _ H1=>D.nx σ H1
theorem DQ(he:PE X e te)(hs:RW e none pos.line X.env=pure false:=by rfl):PS X (.Expr e pos) (J0 te):=by
  intro pins s σ H D I h
  exact wpAny_Expr_any (cZ (he pins s σ H _ I h) fun v s1 ⟨x,H1,I1,r1,q1⟩=>⟨σ,H1,I1,q1⟩) I.quiet hs
def Lx(te:TE):TS:=fun D σ H=>te σ H D.rt
theorem xw(he:PE X e te):PS X (.Return (some e) pos) (Lx te):=by
  intro pins s σ H D I h
  exact wpAny_Return_some (cZ (he pins s σ H _ I h) fun v s1 ⟨x,H1,I1,r1,q1⟩=>⟨x,σ,H1,I1,r1,q1⟩)
def Lr(c:TT)(t u:TS):TS:=fun D σ H=>c σ H fun b H1=>if b=true then t D σ H1 else u D σ H1
theorem EY{c:PH}{a b:List PN}{tc:TT}(hc:PT X c tc)(ha:kQ X a t)(hb:kQ X b u):PS X (.If c a b pos) (Lr tc t u):=by
  intro pins s σ H D I h
  refine wpAny_If (cZ (hc pins s σ H _ I h) fun d s1 ⟨H1,I1,q1⟩=>?_)
  cases d with
  | true=>exact ha pins s1 σ H1 D I1 q1
  | false=>exact hb pins s1 σ H1 D I1 q1
end
abbrev TG:=V→St→Hp→(St→Hp→Prop)→Prop
abbrev zN:=List V→St→Hp→(St→Hp→Prop)→Prop
def PG(X:Cx)(target:PH)(t:TG):Prop:=
  ∀(pins:List (xM × Obj)) (s:PB) (σ:St) (H:Hp) (v:V) (u:MG) (Q:St→Hp→Prop),aN X pins σ H s→bN v u→t v σ H Q→
    PM (PQ X.prog X.w) X.A (assign target X.env u) (fun _ s'=>∃σ' H',aN X pins σ' H' s'∧Q σ' H') X.xe s
def xS(X:Cx)(ts:List PH)(t:zN):Prop:=
  ∀(pins:List (xM × Obj)) (s:PB) (σ:St) (H:Hp) (vs:List V) (us:List MG) (Q:St→Hp→Prop),aN X pins σ H s→aV vs us→t vs σ H Q→
    PM (PQ X.prog X.w) X.A (assignInOrder ((QA ts X.env).map (·.2)) us) (fun _ s'=>∃σ' H',aN X pins σ' H' s'∧Q σ' H') X.xe s
abbrev Fx:=V→V→V→Hp→(Hp→Prop)→Prop
def Io(X:Cx)(t:Fx):Prop:=
  ∀(pins:List (xM × Obj)) (s:PB) (σ:St) (H:Hp) (o i v:V) (ov iv u:MG) (Q:Hp→Prop),aN X pins σ H s→bN o ov→bN i iv→bN v u→t o i v H Q→
    PM (PQ X.prog X.w) X.A (setItem ov iv u) (fun _ s'=>∃H',aN X pins σ H' s'∧Q H') X.xe s
section
variable{X:Cx}{pos:Pos}
def EN(i:Nat):TG:=fun v σ H Q=>Q (σ.set i (some v)) H
theorem DF{i:Nat}{x:Str}(hN:X.N.Nodup)(hi:X.N[i]?=some x)(hx:Cv X.env.scope x)(hf:X.fn x=true∨X.env.scope.names.lookup x=some .local:=by first | exact .inl rfl | exact .inr rfl | assumption):PG X (.Name x pos) (EN i):=by
  intro pins s σ H v u Q I r h
  exact wpAny_assign_Name (nu I hN hi hx r (fun s' I'=>⟨_,H,I',h⟩) hf)
def K2:zN:=fun vs σ H Q=>vs=[]∧Q σ H
def IK(t:TG)(u:zN):zN:=fun vs σ H Q=>∃v r,vs=v::r∧t v σ H fun σ' H'=>u r σ' H' Q
theorem DH:xS X [] K2:=by
  intro pins s σ H vs us Q I r h
  obtain⟨e,h⟩:=h
  subst e
  cases r
  exact assignInOrder_nil ⟨σ,H,I,h⟩
theorem Bb{e:PH}{es:List PH}{t:TG}{u:zN}(h1:PG X e t)(h2:xS X es u)
    (hs:(QA (e::es) X.env).map (·.2)=assign e X.env::(QA es X.env).map (·.2):=by rfl):xS X (e::es) (IK t u):=by
  intro pins s σ H vs us Q I r h
  obtain⟨v,vr,e1,h⟩:=h
  subst e1
  cases r with
  | cons r rr=>
    rw [hs]
    refine assignInOrder_cons (cZ (h1 pins s σ H _ _ _ I r h) fun _ s1 ⟨σ1,H1,I1,q1⟩=>?_)
    exact h2 pins s1 σ1 H1 _ _ Q I1 rr q1
def IL(K:PF)(n:Nat)(t:zN):TG:=fun v σ H Q=>∃a xs,v=.ref a∧fB K H a xs∧xs.length=n∧t xs σ H Q
theorem Hb{es:List PH}{k:Nat}{t:zN}{n:Nat}(hc:X.calm=true)(h:xS X es t)
    (hn:(QA es X.env).length=n:=by rfl)(hst:(QA es X.env).findIdx? (·.1)=none:=by rfl):PG X (.Tuple es k pos) (IL X.K n t):=by
  intro pins s σ H v u Q I r hw
  obtain⟨a,xs,e1,hq,hl,hw⟩:=hw
  subst e1
  cases r
  obtain⟨its,rv,ht,hz⟩:=I.tuple hq
  refine assign_Tuple_tuple (I.ok.hd hc) ht (by simp [hn,←hl,rv.length]) hst fun h' hx=>?_
  have I1:aN X pins σ H {s with heap:=h'}:=I.kept (t':=s.toks) fun b o e=>hx b o (QH (Qg e)) e
  exact h pins _ σ H xs _ Q I1 (by simpa using rv) hw
def K3(to ti:TE)(t:Fx):TG:=fun v σ H Q=>to σ H fun o H1=>ti σ H1 fun i H2=>t o i v H2 fun H3=>Q σ H3
theorem Ha{o i:PH}{to ti:TE}{t:Fx}(ho:PE X o to)(hi:PE X i ti)(hs:Io X t)
    (ha:∀v,assign (.Subscript o i pos) X.env v=(do
      let ov ←Rm [v] (PV o X.env)
      let iv ←Rm [v,ov] (PV i X.env)
      RH pos
      Rm [v,ov,iv] (setItem ov iv v)
      release [v,ov,iv] []):=by intro _;rfl):PG X (.Subscript o i pos) (K3 to ti t):=by
  intro pins s σ H v u Q I r h
  rw [ha]
  refine PR (Ry (cZ (ho pins s σ H _ I h) fun ov s1 ⟨x,H1,I1,r1,q1⟩=>?_))
  refine PR (Ry (cZ (hi pins s1 σ H1 _ I1 q1) fun iv s2 ⟨y,H2,I2,r2,q2⟩=>?_))
  refine PR (wpAny_standAt (PR (Ry (cZ (hs pins s2 σ H2 x y v ov iv u _ I2 r1 r2 r q2) fun _ s3 ⟨H3,I3,q3⟩=>?_))))
  exact wpAny_release ⟨σ,H3,I3,q3⟩
def JZ(te:TE)(g:TG):TS:=fun D σ H=>te σ H fun x H1=>g x σ H1 D.nx
theorem xu{tg e:PH}{te:TE}{g:TG}(he:PE X e te)(hg:PG X tg g)(hs:SK [tg] e pos.line X.env=pure false:=by rfl)(hw:SL [tg] e X.env=pure none:=by rfl)
    (h1:(QA [tg] X.env).map (·.2)=[assign tg X.env]:=by rfl):PS X (.Assign [tg] e pos) (JZ te g):=by
  intro pins s σ H D I h
  refine wpAny_Assign_stores (cZ (he pins s σ H _ I h) fun v s1 ⟨x,H1,I1,r1,q1⟩=>?_) hs hw
  rw [h1]
  exact cZ (hg pins s1 σ H1 x v _ I1 r1 q1) fun _ s2 q=>q
theorem uj{i:Nat}{x:Str}{e:PH}{te:TE}{pos':Pos}(hN:X.N.Nodup)(hi:X.N[i]?=some x)(hx:Cv X.env.scope x)(he:PE X e te)(hs:RW e (some (.Name x pos')) pos.line X.env=pure false:=by rfl)(hf:X.fn x=true∨X.env.scope.names.lookup x=some .local:=by first | exact .inl rfl | exact .inr rfl | assumption):
    PS X (.Assign [.Name x pos'] e pos) (JZ te (EN i)):=by
  intro pins s σ H D I h
  refine wpAny_Assign_Name (cZ (he pins s σ H _ I h) fun v s1 ⟨y,H1,I1,r1,q1⟩=>?_) hs
  exact nu I1 hN hi hx r1 (fun s2 I2=>⟨_,H1,I2,q1⟩) hf
def Lw(i j:Nat)(ta:TA):TS:=fun D σ H=>ta σ H fun vs H1=>∃v w,vs=[v,w]∧D.nx ((σ.set i (some v)).set j (some w)) H1
theorem He{i j:Nat}{x y:Str}{a b:PH}{ta:TA}{px py pt:Pos}{kt k2 pt2}(hc:X.calm=true)(hN:X.N.Nodup)(hi:X.N[i]?=some x)(hj:X.N[j]?=some y)(hij:i≠j)
    (hx:X.env.scope.names.lookup x=some .local)(hy:X.env.scope.names.lookup y=some .local)(ha:PA X [a,b] ta)
    (hw:SL [.Tuple [.Name x px,.Name y py] kt pt] (.Tuple [a,b] k2 pt2) X.env=pure (some [x,y]))
    (hs:SK [.Tuple [.Name x px,.Name y py] kt pt] (.Tuple [a,b] k2 pt2) pos.line X.env=pure false:=by rfl):
    PS X (.Assign [.Tuple [.Name x px,.Name y py] kt pt] (.Tuple [a,b] k2 pt2) pos) (Lw i j ta):=by
  intro pins s σ H D I h
  rw [exec_Assign_arm]
  refine PR (wpAny_standAt ?_)
  rw [hs]
  refine PR (Qa ?_)
  rw [if_neg (by decide)]
  refine PR (Tuple_ (cZ (ha _ pins s σ H _ I h) fun us s1 ⟨vs,H1,I1,r1,q1⟩=>?_))
  obtain⟨v,w,e1,q1⟩:=q1
  subst e1
  obtain⟨u1,u2,rfl,rv,rw'⟩:∃u1 u2,us=[u1,u2]∧bN v u1∧bN w u2:=by
    cases r1 with
    | cons p q=>
      cases q with
      | cons p' q'=>
        cases q'
        exact⟨_,_,rfl,p,p'⟩
  refine Sn ?_ (by show 2≤PY;decide)
  have I2:aN X pins σ H1 {s1 with heap:=s1.heap.push {cls:=.type "tuple",data:=.seq [u1,u2].toArray}}:=I1.kept (t':=s1.toks) fun b o e=>Qs _ e
  rw [hw]
  refine PR (Qa ?_)
  show PM (PQ X.prog X.w) X.A (do rule "assign.swapped-stores";let items ←unpackItems (.ref s1.heap.objs.size) 2 none;assignInOrder [fun v=>bindName X.env y v,fun v=>bindName X.env x v] items.reverse;pure Flow.next) _ _ _
  refine PR (wpAny_rule (PR (unpackItems_tuple (items:=#[u1,u2]) (I.ok.hd hc) (IsTup.new s1.heap _) fun h' hx'=>?_)))
  have I3:=I2.kept (h':=h') (t':=s1.toks) fun b o e=>hx' b o (QH (Qg e)) e
  show PM _ _ (assignInOrder [fun v=>bindName X.env y v,fun v=>bindName X.env x v] [u2,u1] >>= fun _=>pure Flow.next) _ _ _
  refine PR (assignInOrder_cons (wpAny_bindName (nu I3 hN hj (.inl hy) rw' (fun s2 I4=>?_) (.inr hy))))
  refine assignInOrder_cons (wpAny_bindName (nu I4 hN hi (.inl hx) rv (fun s3 I5=>assignInOrder_nil (Qa ?_)) (.inr hx)))
  rw [List.set_comm _ _ (QN hij)] at I5
  exact⟨_,H1,I5,q1⟩
end
section
variable{X:Cx}{pos:Pos}
def HP(c:TT)(tb:TS):TS:=fun D σ H=>∃W:Nat→St→Hp→Prop,(∃m,W m σ H)∧∀m σ H,W m σ H→
  c σ H fun b H1=>if b=true then ∃N:St→Hp→Prop,(∀σ' H',N σ' H'→∃m',m' < m∧W m' σ' H')∧tb {D with nx:=N,ct:=N,bk:=D.nx} σ H1 else D.nx σ H1
theorem Bh{c:PH}{body:List PN}{tc:TT}{tb:TS}(hp:PassesOwn (PQ X.prog X.w) X.A X.env X.xe)(hc:PT X c tc)(hb:kQ X body tb):PS X (.While c body [] pos) (HP tc tb):=by
  intro pins s σ H D I h
  obtain⟨W,⟨m0,w0⟩,turn⟩:=h
  refine wpAny_While (codeAny_whileLoop (fun n s'=>∃σ' H',aN X pins σ' H' s'∧W n σ' H') ?_ m0 ⟨σ,H,I,w0⟩)
  rintro n s1 ⟨σ1,H1,I1,w1⟩
  refine So hp (cZ (hc pins s1 σ1 H1 _ I1 (turn n σ1 H1 w1)) fun b s2 ⟨H2,I2,q2⟩=>?_)
  cases b with
  | true=>
    obtain⟨N,hN,q2⟩:=q2
    rw [if_pos rfl]
    refine So hp (cZ (hb pins s2 σ1 H2 _ I2 q2) fun f s3 q3=>?_)
    cases f with
    | next=>
      obtain⟨σ3,H3,I3,n3⟩:=q3
      obtain⟨m',hm,w3⟩:=hN σ3 H3 n3
      exact⟨m',hm,σ3,H3,I3,w3⟩
    | cont=>
      obtain⟨σ3,H3,I3,n3⟩:=q3
      obtain⟨m',hm,w3⟩:=hN σ3 H3 n3
      exact⟨m',hm,σ3,H3,I3,w3⟩
    | brk=>exact q3
    | ret v=>exact q3
  | false=>
    rw [if_neg Sr]
    exact Tu ⟨σ1,H2,I2,q2⟩
end
structure It where
  go:Nat→Hp→Prop
  yld:Nat→Hp→V→Hp→Prop
  stop:Nat→Hp→Prop
def pE(X:Cx)(pins:List (xM × Obj))(H:Hp)(b:xM):Prop:=
  H b=none∧b≠X.env.locals∧b∉X.fs∧(b∈X.ex∨X.s₀.heap.objs.size≤b)∧(∀x c,X.env.cells.lookup x=some c→c≠b)∧∀p∈X.pn++pins,p.1≠b
theorem aN.fpOk{X:Cx}{pins:List (xM × Obj)}{σ:St}{H H':Hp}{s:PB}{b:xM}(I:aN X pins σ H s)(hb:s.heap.objs.size≤b)(hn:H' b=none):pE X pins H' b:=by
  refine⟨hn,Nat.ne_of_gt (QG I.lt hb),I.nofs hb,.inr (Qq I.sz hb),fun x c e z=>?_,fun p hp z=>?_⟩
  · obtain⟨v,q⟩:=I.cell x c e
    exact absurd (QG q.lt (by rw [z];exact hb)) (RU _)
  · exact absurd (QG (Qg (I.pin p hp).1) (by rw [z];exact hb)) (RU _)
structure Cw (P:PK) (w:PJ) (K:PF) (tg:PH) (J:It) (fp:List xM) (it:xM) (tn:Nat→PL→Prop):Prop where
  mem:it∈fp
  obj:∀i h,tn i h→∀b∈fp,∃o,h.get? b=some o∧∀v,o.data≠.cell v
  keep:∀i h h',tn i h→(∀b∈fp,∀o,h.get? b=some o→h'.get? b=some o)→tn i h'
  item:∀(X:Cx),X.prog=P→X.w=w→X.K=K→X.calm=true→∀(i:Nat) (pins:List (xM × Obj)) (s:PB) (σ:St) (H:Hp) (E:MG→PB→Prop),aN X pins σ H s→(∀b∈fp,pE X pins H b)→tn i s.heap→J.go i H→
    PM (PQ P w) X.A (pyNext (.ref it)) (fun r s1=>∃u,r=some u∧
      PM (PQ P w) X.A (Tv tg (.ref it) u) (fun _ s2=>∃x H',aN X pins σ H' s2∧bN x u∧J.yld i H x H'∧tn (i+1) s2.heap∧∀b∈fp,H' b=none) E s1) E s
  done:∀(X:Cx),X.prog=P→X.w=w→X.K=K→X.calm=true→∀(i:Nat) (pins:List (xM × Obj)) (s:PB) (σ:St) (H:Hp) (E:MG→PB→Prop),aN X pins σ H s→(∀b∈fp,pE X pins H b)→tn i s.heap→J.stop i H→
    PM (PQ P w) X.A (pyNext (.ref it)) (fun r s1=>r=none∧aN X pins σ H s1) E s
  self:∀(A:PP) (i:Nat) (s:PB) (Q:MG→PB→Prop) (E:MG→PB→Prop),tn i s.heap→Q (.ref it) s→PM (PQ P w) A (pyIter (.ref it)) Q E s
abbrev TI:=St→Hp→(It→Hp→Prop)→Prop
def LK(X:Cx)(pins:List (xM × Obj))(σ:St)(tg:PH)(R:It→Hp→Prop)(itv:MG)(s2:PB):Prop:=
  ∃(it:xM) (fp:List xM) (tn:Nat→PL→Prop) (J:It) (H':Hp),itv=.ref it∧aN X pins σ H' s2∧Cw X.prog X.w X.K tg J fp it tn∧tn 0 s2.heap∧(∀b∈fp,pE X pins H' b)∧R J H'
def PI(X:Cx)(tg iter:PH)(wi:TI):Prop:=
  ∀(pins:List (xM × Obj)) (s:PB) (σ:St) (H:Hp) (R:It→Hp→Prop),aN X pins σ H s→wi σ H R→
    PM (PQ X.prog X.w) X.A (PV iter X.env) (fun v s1=>PM (PQ X.prog X.w) X.A (pyIter v) (LK X pins σ tg R) X.xe s1) X.xe s
theorem An{M:Model}{A:PP}{E:MG→PB→Prop}{s:PB}{tg:PH}{it:xM}{u:MG}{o:Obj}{n:String}{vs:Array MG}{Q:Unit→PB→Prop}(ho:s.heap.get? it=some o)(hc:o.cls=.type n)(hd:o.data=.fields vs)
    (hn:["enumerate","zip","dict_itemiterator","dict_reverseitemiterator","odict_iterator","itertools.zip_longest","itertools.pairwise"].contains n=false)(hQ:Q () s):PM M A (Tv tg (.ref it) u) Q E s:=by
  unfold Tv
  cases tg<;>first
    | exact Qa hQ
    | (cases u<;>first
        | exact Qa hQ
        | (refine PR (wpAny_load ho ?_)
           rw [hc,hd]
           show PM M A (if (["enumerate","zip","dict_itemiterator","dict_reverseitemiterator","odict_iterator","itertools.zip_longest","itertools.pairwise"].contains n&&vs[0]?==some (rawInt _))=true then _ else _) Q E s
           rw [if_neg (by intro h;rw [hn,Bool.false_and] at h;cases h)]
           exact Qa hQ))
def Ky(K:PF)(a:xM):It:=
  ⟨fun i H=>∃xs x,iJ K H a xs∧xs[i]?=some x,fun i H x H'=>H'=H∧∀xs,iJ K H a xs→xs[i]?=some x,fun i H=>∃xs,iJ K H a xs∧xs.length≤i⟩
def Kz(K:PF)(a:xM):It:=
  ⟨fun i H=>∃xs x,fB K H a xs∧xs[i]?=some x,fun i H x H'=>H'=H∧∀xs,fB K H a xs→xs[i]?=some x,fun i H=>∃xs,fB K H a xs∧xs.length≤i⟩
def Kh(lo:Int)(n:Nat):It:=⟨fun i _=>i < n,fun i H x H'=>H'=H∧x=.int (lo+i),fun i _=>n≤i⟩
theorem zL{P:PK}{w:PJ}{K:PF}{tg:PH}(a it:xM):Cw P w K tg (Ky K a) [it] it (fun i h=>h.IsListIter it a i) where
  mem:=by simp
  obj:=fun i h st b hb=>by
    have e:b=it:=by simpa using hb
    subst e
    obtain⟨o,e,c,d⟩:=st
    exact⟨o,e,fun v z=>by rw [d] at z;cases z⟩
  keep:=fun i h h' st k=>st.at fun o e=>k it (by simp) o e
  item:=by
    intro X hP hw hK hc i pins s σ H E I hf st hg
    subst hP hw hK
    obtain⟨xs,x,hq,hx⟩:=hg
    obtain⟨its,rv,p,hz⟩:=I.list hq
    obtain⟨u,hu,ru⟩:=rv.get hx
    obtain⟨f0,f1,f2,f3,f4,f5⟩:=hf it (by simp)
    refine wpAny_pyNext_list_item st p.isList (x:=u) (by simpa using hu) fun h' st' sb=>?_
    have I1:aN X pins σ H {s with heap:=h'}:=I.turned (t':=s.toks) (fun b o hb e=>(sb.2 b hb).trans e) f0 f1 f3 f4 f5
    obtain⟨o,e,c,d⟩:=id st'
    exact⟨u,rfl,An (s:={s with heap:=h'}) e c d (by decide) ⟨x,H,I1,ru,⟨rfl,fun ys hy=>by rw [I.list_inj hy hq];exact hx⟩,st',fun b hb=>(hf b hb).1⟩⟩
  done:=by
    intro X hP hw hK hc i pins s σ H E I hf st hg
    subst hP hw hK
    obtain⟨xs,hq,hx⟩:=hg
    obtain⟨its,rv,p,hz⟩:=I.list hq
    obtain⟨f0,f1,f2,f3,f4,f5⟩:=hf it (by simp)
    have hl:=rv.length
    exact wpAny_pyNext_list_end (I.ok.hd hc) st p.isList (by simp;lia) fun h' eb=>⟨rfl,I.turned (t':=s.toks) (fun b o hb e=>eb b o hb e) f0 f1 f3 f4 f5⟩
  self:=fun _ _ _ _ _ st h=>wpAny_pyIter_listiter st h
theorem xN{P:PK}{w:PJ}{K:PF}{tg:PH}(a it:xM):Cw P w K tg (Kz K a) [it] it (fun i h=>h.IsTupleIter it a i) where
  mem:=by simp
  obj:=fun i h st b hb=>by
    have e:b=it:=by simpa using hb
    subst e
    obtain⟨o,e,c,d⟩:=st
    exact⟨o,e,fun v z=>by rw [d] at z;cases z⟩
  keep:=fun i h h' st k=>st.at fun o e=>k it (by simp) o e
  item:=by
    intro X hP hw hK hc i pins s σ H E I hf st hg
    subst hP hw hK
    obtain⟨xs,x,hq,hx⟩:=hg
    obtain⟨its,rv,p,hz⟩:=I.tuple hq
    obtain⟨u,hu,ru⟩:=rv.get hx
    obtain⟨f0,f1,f2,f3,f4,f5⟩:=hf it (by simp)
    refine wpAny_pyNext_tuple_item st (show s.heap.IsTuple a its.toArray from p) (x:=u) (by simpa using hu) fun h' st' sb=>?_
    have I1:aN X pins σ H {s with heap:=h'}:=I.turned (t':=s.toks) (fun b o hb e=>(sb.2 b hb).trans e) f0 f1 f3 f4 f5
    obtain⟨o,e,c,d⟩:=id st'
    exact⟨u,rfl,An (s:={s with heap:=h'}) e c d (by decide) ⟨x,H,I1,ru,⟨rfl,fun ys hy=>by rw [I.tuple_inj hy hq];exact hx⟩,st',fun b hb=>(hf b hb).1⟩⟩
  done:=by
    intro X hP hw hK hc i pins s σ H E I hf st hg
    subst hP hw hK
    obtain⟨xs,hq,hx⟩:=hg
    obtain⟨its,rv,p,hz⟩:=I.tuple hq
    obtain⟨f0,f1,f2,f3,f4,f5⟩:=hf it (by simp)
    have hl:=rv.length
    exact wpAny_pyNext_tuple_end (I.ok.hd hc) st (show s.heap.IsTuple a its.toArray from p) (by simp;lia) fun h' eb=>⟨rfl,I.turned (t':=s.toks) (fun b o hb e=>eb b o hb e) f0 f1 f3 f4 f5⟩
  self:=fun _ _ _ _ _ st h=>wpAny_pyIter_tupleiter st h
theorem xK{P:PK}{w:PJ}{K:PF}{tg:PH}(it:xM)(lo:Int)(n:Nat):Cw P w K tg (Kh lo n) [it] it (fun i h=>IsRangeIter h it (lo+(i:Nat)*1) ((n:Int) - (i:Nat)) 1) where
  mem:=by simp
  obj:=fun i h st b hb=>by
    have e:b=it:=by simpa using hb
    subst e
    exact⟨_,st,fun v z=>by
      have z':Data.fields _=Data.cell v:=z
      cases z'⟩
  keep:=fun i h h' st k=>k it (by simp) _ st
  item:=by
    intro X hP hw hK hc i pins s σ H E I hf st hg
    subst hP hw hK
    obtain⟨f0,f1,f2,f3,f4,f5⟩:=hf it (by simp)
    have W:=Walks.range (prog:=X.prog) (w:=X.w) (I.ok.hd hc) it lo 1 n
    refine W.item i s _ _ hg st fun v h' tk hv st' kk=>?_
    obtain⟨t,rfl⟩:=hv
    have I1:aN X pins σ H {s with heap:=h',toks:=tk}:=I.turned (fun b o hb e=>kk b o (by simpa using hb) e) f0 f1 f3 f4 f5
    refine⟨_,rfl,An (s:={s with heap:=h',toks:=tk}) (n:="range_iterator") st' rfl rfl (by decide) ⟨.int (lo+i),H,I1,⟨t,?_⟩,⟨rfl,rfl⟩,st',fun b hb=>(hf b hb).1⟩⟩
    rw [Int.mul_one]
  done:=by
    intro X hP hw hK hc i pins s σ H E I hf st hg
    subst hP hw hK
    obtain⟨f0,f1,f2,f3,f4,f5⟩:=hf it (by simp)
    exact wpAny_pyNext_range_end (I.ok.hd hc) st (by have:n≤i:=hg;lia) fun h' eb=>⟨rfl,I.turned (t':=s.toks) (fun b o hb e=>eb b o hb e) f0 f1 f3 f4 f5⟩
  self:=fun _ _ _ _ _ st h=>wpAny_pyIter_rangeiter st h
section
variable{X:Cx}{tg:PH}
def EQ(K:PF)(tl:TE):TI:=fun σ H R=>tl σ H fun x H1=>∃a,x=.ref a∧(∃xs,iJ K H1 a xs)∧R (Ky K a) H1
def IP(K:PF)(tl:TE):TI:=fun σ H R=>tl σ H fun x H1=>∃a,x=.ref a∧(∃xs,fB K H1 a xs)∧R (Kz K a) H1
theorem DK{l:PH}{tl:TE}(hl:PE X l tl):PI X tg l (EQ X.K tl):=by
  intro pins s σ H R I h
  refine cZ (hl pins s σ H _ I h) fun v s1 ⟨x,H1,I1,r1,q1⟩=>?_
  obtain⟨a,e,⟨xs,hq⟩,q⟩:=q1
  subst e
  cases r1
  obtain⟨its,rv,p,hz⟩:=I1.list hq
  refine wpAny_pyIter_list p.isList ?_
  refine⟨s1.heap.objs.size,[s1.heap.objs.size],_,_,H1,rfl,I1.kept (t':=s1.toks) fun b o e=>Qs _ e,zL a _,⟨_,QL _ rfl,rfl,rfl⟩,fun b hb=>?_,q⟩
  have e:b=s1.heap.objs.size:=by simpa using hb
  subst e
  exact I1.fpOk (Qc _) (I1.hok.fresh (Qc _))
theorem Hc{l:PH}{tl:TE}(hl:PE X l tl):PI X tg l (IP X.K tl):=by
  intro pins s σ H R I h
  refine cZ (hl pins s σ H _ I h) fun v s1 ⟨x,H1,I1,r1,q1⟩=>?_
  obtain⟨a,e,⟨xs,hq⟩,q⟩:=q1
  subst e
  cases r1
  obtain⟨its,rv,p,hz⟩:=I1.tuple hq
  refine wpAny_pyIter_tuple (show s1.heap.IsTuple a its.toArray from p) ?_
  refine⟨s1.heap.objs.size,[s1.heap.objs.size],_,_,H1,rfl,I1.kept (t':=s1.toks) fun b o e=>Qs _ e,xN a _,⟨_,QL _ rfl,rfl,rfl⟩,fun b hb=>?_,q⟩
  have e:b=s1.heap.objs.size:=by simpa using hb
  subst e
  exact I1.fpOk (Qc _) (I1.hok.fresh (Qc _))
theorem BE{pins:List (xM × Obj)}{σ:St}{H:Hp}{s:PB}{R:It→Hp→Prop}{E:MG→PB→Prop}{lo hi:Int}{t u v:Tok}{tk:Nat}(I:aN X pins σ H s)(h1: -(2 ^ 62)≤lo)(h2:lo < 2 ^ 62)(h3: -(2 ^ 62)≤hi)(h4:hi < 2 ^ 62)
    (q:R (Kh lo (hi - lo).toNat) H):PM (PQ X.prog X.w) X.A (pyIter (.ref s.heap.objs.size)) (LK X pins σ tg R) E {s with heap:=s.heap.push {cls:=.type "range",data:=.fields #[.int lo t,.int hi u,.int 1 v]},toks:=tk}:=by
  refine wpAny_pyIter_range (IsRange.new ..) (small_one h1 h2 h3 h4) ?_
  have I1:aN X pins σ H {s with heap:=s.heap.push {cls:=.type "range",data:=.fields #[.int lo t,.int hi u,.int 1 v]},toks:=tk}:=I.kept fun b o e=>Qs _ e
  refine⟨(s.heap.push {cls:=.type "range",data:=.fields #[.int lo t,.int hi u,.int 1 v]}).objs.size,[(s.heap.push {cls:=.type "range",data:=.fields #[.int lo t,.int hi u,.int 1 v]}).objs.size],_,_,H,rfl,
    I1.kept (t':=tk) fun b o e=>Qs _ e,xK _ lo (hi - lo).toNat,?_,fun b hb=>?_,q⟩
  · have e1:lo+((0:Nat):Int)*1=lo:=by simp
    have e2:(((hi - lo).toNat:Nat):Int) - ((0:Nat):Int)=Builtin.Range.rangeSize lo hi 1:=by rw [rangeSize_one];split<;>lia
    show IsRangeIter _ _ (lo+((0:Nat):Int)*1) ((((hi - lo).toNat:Nat):Int) - ((0:Nat):Int)) 1
    rw [e1,e2]
    exact QL _ rfl
  · have e:b=(s.heap.push {cls:=.type "range",data:=.fields #[.int lo t,.int hi u,.int 1 v]}).objs.size:=by simpa using hb
    subst e
    exact I1.fpOk (Qc _) (I1.hok.fresh (Qc _))
def IM(ta:TA):TI:=fun σ H R=>ta σ H fun vs H1=>∃j:Int,vs=[.int j]∧ -(2 ^ 62)≤j∧j < 2 ^ 62∧R (Kh 0 j.toNat) H1
theorem zx{a:PH}{ta:TA}{p pos:Pos}(hg:Gl X "range")(hm:X.mg "range"=none)(ha:PA X [a] ta)(hs:PU [a] X.env=[(false,PV a X.env)]:=by rfl):PI X tg (.Call (.Name "range" p) [a] [] pos) (IM ta):=by
  intro pins s σ H R I h
  refine Call_ (t_ I hg hm boot_range (UK (cZ (ha pos pins s σ H _ I h) fun us s1 ⟨vs,H1,I1,r1,q1⟩=>?_) hs rfl))
  obtain⟨j,e,q1,q2,q⟩:=q1
  subst e
  cases r1 with
  | cons r rr=>
    cases rr
    obtain⟨t,rfl⟩:=r
    exact call_range_1 (BE I1 (by lia) (by lia) q1 q2 (by simpa using q))
def Lq(wi:TI)(g:TG)(tb:TS):TS:=fun D σ H=>wi σ H fun J H1=>∃W:Nat→Nat→St→Hp→Prop,(∃m,W 0 m σ H1)∧∀i m σ H,W i m σ H→
  (J.stop i H∧D.nx σ H)∨(J.go i H∧∃N:St→Hp→Prop,(∀σ' H',N σ' H'→∃m',m' < m∧W (i+1) m' σ' H')∧∀x H',J.yld i H x H'→g x σ H' fun σ2 H2=>tb {D with nx:=N,ct:=N,bk:=D.nx} σ2 H2)
def qi(fp:List xM)(h:PL):List (xM × Obj):=fp.filterMap fun b=>(h.get? b).map fun o=>(b,o)
theorem jJ{fp:List xM}{h:PL}{b:xM}{o:Obj}(hb:b∈fp)(e:h.get? b=some o):(b,o)∈qi fp h:=Tt.mpr ⟨b,hb,by rw [e];rfl⟩
theorem zq{fp:List xM}{h:PL}{p:xM × Obj}(hp:p∈qi fp h):p.1∈fp∧h.get? p.1=some p.2:=by
  obtain⟨b,hb,e⟩:=Tt.mp hp
  cases q:h.get? b with
  | none=>rw [q] at e;cases e
  | some o=>
    rw [q] at e
    have e':(b,o)=p:=QO e
    subst e'
    exact⟨hb,q⟩
theorem aN.pinned{pins:List (xM × Obj)}{σ:St}{H:Hp}{s:PB}{fp:List xM}(I:aN X pins σ H s)(hf:∀b∈fp,pE X pins H b)(ho:∀b∈fp,∃o,s.heap.get? b=some o∧∀v,o.data≠.cell v):aN X (pins++qi fp s.heap) σ H s:=
  I.pins_of fun p hp=>(Pv hp).elim (fun z=>I.pin p (RI _ z)) fun z=>by
    obtain⟨hb,e⟩:=zq z
    obtain⟨f0,f1,f2,_⟩:=hf p.1 hb
    obtain⟨o,e',d⟩:=ho p.1 hb
    rw [e] at e';cases e'
    exact⟨e,f0,f1,f2,d⟩
theorem aN.unpinned{pins pl:List (xM × Obj)}{σ:St}{H:Hp}{s:PB}(I:aN X (pins++pl) σ H s):aN X pins σ H s:=I.pins_of fun p hp=>I.pin p (RI _ (List.mem_append_left _ hp))
theorem Bg{iter:PH}{body:List PN}{wi:TI}{g:TG}{tb:TS}{pos:Pos}(hp:PassesOwn (PQ X.prog X.w) X.A X.env X.xe)(hc:X.calm=true)(hi:PI X tg iter wi)(hg:PG X tg g)(hb:kQ X body tb)
    (hs:∀x,SN iter X.env x=pure x:=by intro _;rfl):PS X (.For tg iter body [] pos) (Lq wi g tb):=by
  intro pins s σ H D I h
  refine wpAny_For (cZ (hi pins s σ H _ I h) fun v s1 h1=>cZ h1 fun itv s2 h2=>?_) hs
  obtain⟨it,fp,tn,J,H2,e,I2,T,st2,f2,W,⟨m0,w0⟩,turn⟩:=h2
  subst e
  have stat:∀{H':Hp},(∀b∈fp,H' b=none)→∀b∈fp,pE X pins H' b:=fun hn b hb=>⟨hn b hb,(f2 b hb).2⟩
  refine codeAny_forLoop_any (fun n s'=>∃i σ' H',aN X pins σ' H' s'∧tn i s'.heap∧(∀b∈fp,H' b=none)∧W i n σ' H') ?_ m0 ⟨0,σ,H2,I2,st2,fun b hb=>(f2 b hb).1,w0⟩
  rintro n s3 ⟨i,σ3,H3,I3,st3,fr3,w3⟩
  rcases turn i n σ3 H3 w3 with ⟨stop,qn⟩ | ⟨go,N,hN,step⟩
  · refine So hp (cZ (T.done X rfl rfl rfl hc i pins s3 σ3 H3 X.xe I3 (stat fr3) st3 stop) fun r s4 ⟨hr,I4⟩=>?_)
    subst hr
    exact Tu ⟨σ3,H3,I4,qn⟩
  · refine So hp (cZ (T.item X rfl rfl rfl hc i pins s3 σ3 H3 X.xe I3 (stat fr3) st3 go) fun r s4 ⟨u,hr,h4⟩=>?_)
    subst hr
    refine So hp (cZ h4 fun _ s5 ⟨x,H5,I5,r5,y5,st5,fr5⟩=>?_)
    have I5':=I5.pinned (stat fr5) (T.obj _ _ st5)
    refine So hp (cZ (hg _ s5 σ3 H5 x u _ I5' r5 (step x H5 y5)) fun _ s6 ⟨σ6,H6,I6,q6⟩=>?_)
    refine So hp (cZ (hb _ s6 σ6 H6 _ I6 q6) fun f s7 q7=>?_)
    have again:∀{σ7:St} {H7:Hp},aN X (pins++qi fp s5.heap) σ7 H7 s7→N σ7 H7→∃m,m < n∧∃i σ' H',aN X pins σ' H' s7∧tn i s7.heap∧(∀b∈fp,H' b=none)∧W i m σ' H':=fun{σ7 H7} I7 n7=>by
      obtain⟨m',hm,w7⟩:=hN σ7 H7 n7
      refine⟨m',hm,i+1,σ7,H7,I7.unpinned,T.keep _ _ _ st5 fun b hb o e=>(I7.pin (b,o) (RI _ (RI _ (jJ hb e)))).1,fun b hb=>?_,w7⟩
      obtain⟨o,e,d⟩:=T.obj _ _ st5 b hb
      exact(I7.pin (b,o) (RI _ (RI _ (jJ hb e)))).2.1
    cases f with
    | next=>obtain⟨σ7,H7,I7,n7⟩:=q7;exact again I7 n7
    | cont=>obtain⟨σ7,H7,I7,n7⟩:=q7;exact again I7 n7
    | brk=>obtain⟨σ7,H7,I7,q7⟩:=q7;exact⟨σ7,H7,I7.unpinned,q7⟩
    | ret v=>obtain⟨x7,σ7,H7,I7,r7,q7⟩:=q7;exact⟨x7,σ7,H7,I7.unpinned,r7,q7⟩
end
abbrev R2:=V→V→Hp→VK→Prop
def iH(X:Cx)(f:MG→MG→Sem MG)(r:R2):Prop:=
  ∀(pins:List (xM × Obj)) (s:PB) (σ:St) (H:Hp) (x y:V) (v u:MG) (Q:VK),aN X pins σ H s→bN x v→bN y u→r x y H Q→
    PM (PQ X.prog X.w) X.A (f v u) (EP X pins σ Q) X.xe s
def Kl(X:Cx)(f:MG→Sem MG)(r:V→Hp→VK→Prop):Prop:=
  ∀(pins:List (xM × Obj)) (s:PB) (σ:St) (H:Hp) (x:V) (v:MG) (Q:VK),aN X pins σ H s→bN x v→r x H Q→
    PM (PQ X.prog X.w) X.A (f v) (EP X pins σ Q) X.xe s
def dX(X:Cx)(f:MG)(r:List V→Hp→VK→Prop):Prop:=
  ∀(pins:List (xM × Obj)) (s:PB) (σ:St) (H:Hp) (xs:List V) (us:List MG) (Q:VK),aN X pins σ H s→aV xs us→r xs H Q→
    PM (PQ X.prog X.w) X.A (call f us) (EP X pins σ Q) X.xe s
def Il(r:R2)(ta tb:TE):TE:=fun σ H Q=>ta σ H fun x H1=>tb σ H1 fun y H2=>r x y H2 Q
def LX(r:V→Hp→VK→Prop)(ta:TE):TE:=fun σ H Q=>ta σ H fun x H1=>r x H1 Q
def rI(C:Int→Int→Prop)(g:Int→Int→V):R2:=fun x y H Q=>∃i j,x=.int i∧y=.int j∧C i j∧Q (g i j) H
def zA(g:Int→Int→V):R2:=fun x y H Q=>∃i j,x=.int i∧y=.int j∧Q (g i j) H
def rU(g:Int→V):V→Hp→VK→Prop:=fun x H Q=>∃i,x=.int i∧Q (g i) H
section
variable{X:Cx}{a b c:PH}{ta tb tc:TE}{pos:Pos}
theorem FB(ha:PE X a ta)(hb:PE X b tb){pins:List (xM × Obj)}{s:PB}{σ:St}{H:Hp}{R:V→V→Hp→Prop}(I:aN X pins σ H s)
    (h:ta σ H fun x H1=>tb σ H1 fun y H2=>R x y H2){Q:MG→PB→Prop}{f:MG→MG→Sem MG}
    (hf:∀v u s2 x y H2,aN X pins σ H2 s2→bN x v→bN y u→R x y H2→PM (PQ X.prog X.w) X.A (f v u) Q X.xe s2):
    PM (PQ X.prog X.w) X.A (PV a X.env) (fun v s₁=>PM (PQ X.prog X.w) X.A (PV b X.env) (fun u s₂=>PM (PQ X.prog X.w) X.A (f v u) Q X.xe s₂) X.xe s₁) X.xe s:=by
  refine cZ (ha pins s σ H _ I h) fun v s1 ⟨x,H1,I1,r1,q1⟩=>?_
  refine cZ (hb pins s1 σ H1 _ I1 q1) fun u s2 ⟨y,H2,I2,r2,q2⟩=>?_
  exact hf v u s2 x y H2 I2 r1 r2 q2
theorem EW{op:Operator}{r:R2}(ho:iH X (Qt op) r)(ha:PE X a ta)(hb:PE X b tb):PE X (.BinOp a op b pos) (Il r ta tb):=by
  intro pins s σ H Q I h
  exact wpAny_BinOp (FB ha hb I h fun v u s2 x y H2 I2 rx ry q=>ho pins s2 σ H2 x y v u Q I2 rx ry q)
theorem Ju{op:UnaryOp}{r:V→Hp→VK→Prop}(ho:Kl X (unaryOp op) r)(ha:PE X a ta):PE X (.UnaryOp op a pos) (LX r ta):=by
  intro pins s σ H Q I h
  exact UnaryOp_ (cZ (ha pins s σ H _ I h) fun v s1 ⟨x,H1,I1,r1,q1⟩=>ho pins s1 σ H1 x v Q I1 r1 q1)
theorem Jn{f:MG→MG→Sem MG}{C:Int→Int→Prop}{g:Int→Int→Int}
    (rule:∀(i j:Int) (t u:Tok) (s:PB) (Q:MG→PB→Prop) (E:MG→PB→Prop),C i j→Q (.int (g i j) s.toks) {s with toks:=s.toks+1}→PM (PQ X.prog X.w) X.A (f (.int i t) (.int j u)) Q E s):
    iH X f (rI C fun i j=>.int (g i j)):=by
  intro pins s σ H x y v u Q I rx ry h
  obtain⟨i,j,rfl,rfl,hc,q⟩:=h
  obtain⟨t,rfl⟩:=rx
  obtain⟨t',rfl⟩:=ry
  exact rule i j t t' s _ _ hc ⟨.int (g i j),H,I.tok _,⟨_,rfl⟩,q⟩
theorem Jo{f:MG→MG→Sem MG}{g:Int→Int→Int}
    (rule:∀(i j:Int) (t u:Tok) (s:PB) (Q:MG→PB→Prop) (E:MG→PB→Prop),Q (.int (g i j) s.toks) {s with toks:=s.toks+1}→PM (PQ X.prog X.w) X.A (f (.int i t) (.int j u)) Q E s):
    iH X f (zA fun i j=>.int (g i j)):=by
  intro pins s σ H x y v u Q I rx ry h
  obtain⟨i,j,rfl,rfl,q⟩:=h
  obtain⟨t,rfl⟩:=rx
  obtain⟨t',rfl⟩:=ry
  exact rule i j t t' s _ _ ⟨.int (g i j),H,I.tok _,⟨_,rfl⟩,q⟩
theorem GQ{f:MG→MG→Sem MG}{g:Int→Int→Bool}
    (rule:∀(i j:Int) (t u:Tok) (s:PB) (Q:MG→PB→Prop) (E:MG→PB→Prop),Q (.bool (g i j)) s→PM (PQ X.prog X.w) X.A (f (.int i t) (.int j u)) Q E s):
    iH X f (zA fun i j=>.bl (g i j)):=by
  intro pins s σ H x y v u Q I rx ry h
  obtain⟨i,j,rfl,rfl,q⟩:=h
  obtain⟨t,rfl⟩:=rx
  obtain⟨t',rfl⟩:=ry
  exact rule i j t t' s _ _ ⟨.bl (g i j),H,I,rfl,q⟩
def Fq(i j:Int):Prop:=0≤j∧j≤1000000∧i.natAbs < 2 ^ 64
def Ct(i j:Int):Prop:=(-(2 ^ 64) < i∧i < 2 ^ 64)∨(-(2 ^ 64) < j∧j < 2 ^ 64)
theorem Ct.ok{i j:Int}(h:Ct i j):IntMulOk i j:=by
  rcases h with ⟨h1,h2⟩ | ⟨h1,h2⟩
  · exact .of_left (intBits_le_64 h1 h2)
  · exact .of_right (intBits_le_64 h1 h2)
theorem GR:iH X (Qt .Add) (zA fun i j=>.int (i+j)):=Jo fun _ _ _ _ _ _ _ q=>add_int q
theorem G2:iH X (Qt .Sub) (zA fun i j=>.int (i - j)):=Jo fun _ _ _ _ _ _ _ q=>sub_int q
theorem GY:iH X (Qt .Mult) (rI Ct fun i j=>.int (i*j)):=Jn fun _ _ _ _ _ _ _ hc q=>mul_int q hc.ok
theorem Dq:iH X (Qt .Mod) (rI (fun _ j=>j≠0) fun i j=>.int (i.fmod j)):=Jn fun _ _ _ _ _ _ _ hc q=>mod_int' hc q
theorem G0:iH X (Qt .Pow) (rI Fq fun i j=>.int (i ^ j.toNat)):=Jn fun _ _ _ _ _ _ _ hc q=>pow_int_small hc.1 hc.2.1 hc.2.2 q
theorem My{f:MG→Sem MG}{g:Int→Int}
    (rule:∀(i:Int) (t:Tok) (s:PB) (Q:MG→PB→Prop) (E:MG→PB→Prop),Q (.int (g i) s.toks) {s with toks:=s.toks+1}→PM (PQ X.prog X.w) X.A (f (.int i t)) Q E s):
    Kl X f (rU fun i=>.int (g i)):=by
  intro pins s σ H x v Q I rx h
  obtain⟨i,rfl,q⟩:=h
  obtain⟨t,rfl⟩:=rx
  exact rule i t s _ _ ⟨.int (g i),H,I.tok _,⟨_,rfl⟩,q⟩
theorem HU:Kl X (unaryOp .USub) (rU fun i=>.int (-i)):=My fun _ _ _ _ _ q=>neg_int q
end
section
variable{X:Cx}{a b c:PH}{ta tb tc:TE}{pos:Pos}
theorem Ab{pins:List (xM × Obj)}{σ:St}{H:Hp}{s:PB}{Q:VK}{k k':Bool}(I:aN X pins σ H s)(q:Q (.bl k) H)(e:k=k'):EP X pins σ Q (.bool k') s:=by
  subst e
  exact⟨.bl k,H,I,rfl,q⟩
theorem Jr:iH X (QB .Lt) (zA fun i j=>.bl (decide (i < j))):=GQ fun _ _ _ _ _ _ _ q=>lt_int q
theorem Jq:iH X (QB .Gt) (zA fun i j=>.bl (decide (j < i))):=GQ fun _ _ _ _ _ _ _ q=>gt_int q
theorem Jp:iH X (QB .GtE) (zA fun i j=>.bl (decide (j≤i))):=GQ fun _ _ _ _ _ _ _ q=>ge_int q
theorem GX:iH X (QB .Is) (fun x y H Q=>y=.non∧Q (.bl (decide (x=.non))) H):=by
  intro pins s σ H x y v u Q I rx ry h
  obtain⟨rfl,q⟩:=h
  cases ry
  refine is_none_gen (Ab I q ?_)
  cases x<;>first
    | (cases rx;rfl)
    | (obtain⟨t,rfl⟩:=rx;rfl)
theorem Dv:iH X (QB .IsNot) (fun x y H Q=>y=.non∧Q (.bl (!decide (x=.non))) H):=by
  intro pins s σ H x y v u Q I rx ry h
  obtain⟨rfl,q⟩:=h
  cases ry
  refine isnot_none_gen (Ab I q ?_)
  cases x<;>first
    | (cases rx;rfl)
    | (obtain⟨t,rfl⟩:=rx;rfl)
theorem iH.or{f:MG→MG→Sem MG}{r r':R2}(h:iH X f r)(h':iH X f r'):iH X f (fun x y H Q=>r x y H Q∨r' x y H Q):=by
  intro pins s σ H x y v u Q I rx ry q
  rcases q with q | q
  · exact h pins s σ H x y v u Q I rx ry q
  · exact h' pins s σ H x y v u Q I rx ry q
theorem aL(b:PH){op:CmpOp}(h:op≠.In:=by decide)(h2:op≠.NotIn:=by decide):Rl op b=false:=by
  have e1:(op==CmpOp.In)=false:=by cases op<;>first | rfl | exact absurd rfl h
  have e2:(op==CmpOp.NotIn)=false:=by cases op<;>first | rfl | exact absurd rfl h2
  cases b<;>simp [Rl,e1,e2]
theorem DB{op:CmpOp}{r:R2}(ho:iH X (QB op) r)(ha:PE X a ta)(hb:PE X b tb)(hm:Rl op b=false):PE X (.Compare a [op] [b] pos) (Il r ta tb):=by
  intro pins s σ H Q I h
  exact wpAny_Compare1 (FB ha hb I h fun v u s2 x y H2 I2 rx ry q=>ho pins s2 σ H2 x y v u Q I2 rx ry q) hm
def J6(t:TE):TT:=fun σ H Q=>t σ H fun x H'=>∃k,x=.bl k∧Q k H'
theorem yq{op:CmpOp}{r:R2}(ho:iH X (QB op) r)(ha:PE X a ta)(hb:PE X b tb)(hm:Rl op b=false):PT X (.Compare a [op] [b] pos) (J6 (Il r ta tb)):=by
  intro pins s σ H Q I h
  refine wpAny_isTrue_Compare1 (cZ (ha pins s σ H _ I h) fun v s1 ⟨x,H1,I1,r1,q1⟩=>cZ (hb pins s1 σ H1 _ I1 q1) fun u s2 ⟨y,H2,I2,r2,q2⟩=>
    cZ (ho pins s2 σ H2 x y v u _ I2 r1 r2 q2) fun c s3 ⟨z,H3,I3,r3,k,e,q3⟩=>?_) hm
  subst e
  cases r3
  exact SZ ⟨H3,I3,q3⟩
theorem p4:(PY:Nat) < 2 ^ 63:=by rw [QC];decide
theorem sV{x:V}{us:List MG}(r:aV [x] us):∃u,us=[u]∧bN x u:=by
  cases r with
  | cons r1 r2=>cases r2;exact⟨_,rfl,r1⟩
theorem Fi{x y:V}{us:List MG}(r:aV [x,y] us):∃u w',us=[u,w']∧bN x u∧bN y w':=by
  cases r with
  | cons r1 r2=>
    cases r2 with
    | cons r3 r4=>cases r4;exact⟨_,_,rfl,r1,r3⟩
theorem zZ:dX X (.builtin "abs") (fun xs H Q=>∃i,xs=[.int i]∧Q (.int (if i < 0 then -i else i)) H):=by
  intro pins s σ H xs us Q I r h
  obtain⟨i,rfl,q⟩:=h
  obtain⟨u,rfl,t,rfl⟩:=sV r
  exact call_abs_int fun u tk=>⟨.int (if i < 0 then -i else i),H,I.tok _,⟨_,rfl⟩,q⟩
theorem yW(hc:X.calm=true):dX X (.builtin "max") (fun xs H Q=>∃i j,xs=[.int i,.int j]∧Q (.int (if j > i then j else i)) H):=by
  intro pins s σ H xs us Q I r h
  obtain⟨i,j,rfl,q⟩:=h
  obtain⟨u,w',rfl,⟨t,rfl⟩,⟨t',rfl⟩⟩:=Fi r
  refine max_two_ints (I.ok.hd hc) fun h' tk k=>⟨_,H,I.kept k,?_,q⟩
  by_cases hj:j > i
  · rw [if_pos hj,if_pos hj];exact⟨_,rfl⟩
  · rw [if_neg hj,if_neg hj];exact⟨_,rfl⟩
theorem yX(hc:X.calm=true):dX X (.builtin "min") (fun xs H Q=>∃i j,xs=[.int i,.int j]∧Q (.int (if j < i then j else i)) H):=by
  intro pins s σ H xs us Q I r h
  obtain⟨i,j,rfl,q⟩:=h
  obtain⟨u,w',rfl,⟨t,rfl⟩,⟨t',rfl⟩⟩:=Fi r
  refine min_two_ints (I.ok.hd hc) fun h' tk k=>⟨_,H,I.kept k,?_,q⟩
  by_cases hj:j < i
  · rw [if_pos hj,if_pos hj];exact⟨_,rfl⟩
  · rw [if_neg hj,if_neg hj];exact⟨_,rfl⟩
theorem yV:dX X (.type "int") (fun xs H Q=>(∃i,xs=[.int i]∧Q (.int i) H)∨∃k,xs=[.bl k]∧Q (.int (if k then 1 else 0)) H):=by
  intro pins s σ H xs us Q I r h
  rcases h with ⟨i,rfl,q⟩ | ⟨k,rfl,q⟩
  · obtain⟨u,rfl,t,rfl⟩:=sV r
    exact call_int_int ⟨.int i,H,I,⟨_,rfl⟩,q⟩
  · obtain⟨u,rfl,r1⟩:=sV r
    cases r1
    exact call_int_bool ⟨.int (if k then 1 else 0),H,I.tok _,⟨_,rfl⟩,q⟩
end
structure wy (h:PL) (x dx C:xM) (mA:Str→Option MG):Prop where
  obj:h.get? x=some (RZ C dx)
  ns:h.Ns1 dx mA
  ne:dx≠x
theorem zo{h:PL}{dx:xM}{mA:Str→Option MG}(n:h.Ns1 dx mA):∃od,h.get? dx=some od∧∀name,Tw name od=some (mA name):=by
  obtain⟨o,es,ep,ho,hd,hk,_,hm⟩:=n
  refine⟨o,ho,fun name=>?_⟩
  have e:=hm name
  unfold nsFind findBy at e
  rw [←Array.find?_toList] at e
  unfold Tw
  rw [hd]
  dsimp only
  split
  · rename_i y q
    rw [q] at e
    exact congrArg some e
  · rename_i q
    rw [q] at e
    have a:es.toList.any (·.refKey)=false:=by
      rw [Tx]
      intro y hy
      obtain⟨z,t,hkey⟩:=hk y (Array.mem_toList_iff.mp hy)
      simp [DictEntry.refKey,hkey]
    have a':¬es.toList.any (·.refKey)=true:=by rw [a];exact Sr
    rw [if_neg a']
    exact congrArg some e
theorem wy.look{h:PL}{x dx C:xM}{mA:Str→Option MG}(I:wy h x dx C mA):∃od,PySem.W.InstAt h x (RZ C dx) C (some od)∧∀name,Tw name od=some (mA name):=
  let ⟨od,ho,hl⟩:=zo I.ns
  ⟨od,⟨I.obj,rfl,rfl,ho⟩,hl⟩
section
variable{prog:PK}{w:PJ}{A:PP}{E:MG→PB→Prop}{s:PB}{K:PF}{x dx C f:xM}{mA:Str→Option MG}{name:Str}{v:MG}
theorem CM{expr:Bool}{Q:MG→PB→Prop}(X:K.In s.heap)(I:wy s.heap x dx C mA)(hg:Tz K C name=true)(hh:Um K C=true)
    (ha:Rg K (.ref C) name=some none)(hv:mA name=some v)(hv':PySem.W.handedIn v=true)(h:Q v {s with toks:=s.toks+1}):
    PM (PQ prog w) A (getAttr (.ref x) name expr) Q E s:=by
  obtain⟨od,J,hl⟩:=I.look
  exact PySem.W.get_value X J (Uo hg).1 (PySem.W.findObj_own hh ha rfl (by rw [hl,hv])) hv' h
theorem Am{pl:Sem Bool}{Q:MG × List MG→PB→Prop}(X:K.In s.heap)(I:wy s.heap x dx C mA)(hg:Tz K C name=true)
    (hf:Rg K (.ref C) name=some (some (.ref f)))(ht:PySem.W.isFn K (.ref f)=true)(hv:mA name=none)(h:Q (.ref f,[.ref x]) s):
    PM (PQ prog w) A (getMethod (.ref x) name pl) Q E s:=by
  obtain⟨od,J,hl⟩:=I.look
  exact PySem.W.method_fn X J (Uo hg).1 (Uo hg).2 hf (beq_iff_eq.mp ht) (by show(Tw name od).map (·.isSome)=some false;rw [hl,hv];rfl) h
theorem D_{ns:List Str}{Q:Unit→PB→Prop}(X:K.In s.heap)(I:wy s.heap x dx C mA)
    (hs:Rg K (.ref C) "__setattr__"=some (some (.builtin "object.__setattr__")))(hp:PySem.W.plainOver K C=true)(ht:PySem.W.takerIn K C name=some none)(hh:Um K C=true)
    (hw:PySem.Within mA ns)(hsz:ns.length≤PY)
    (h:∀h',wy h' x dx C (fun y=>if y=name then some v else mA y)→SJ dx s.heap h'→Q () {s with heap:=h',toks:=s.toks+2}):
    PM (PQ prog w) A (setAttr (.ref x) name v) Q E s:=by
  obtain⟨od,J,hl⟩:=I.look
  refine PySem.W.set_plain X J hs (PySem.W.osa_open (s:={s with toks:=s.toks+1}) (r:=none) X J hp ht fun b=>?_)
  obtain⟨cd,hc,hd'⟩:=PySem.W.any_some hh
  have hx:s.heap.get? x=some ⟨.ref C,some dx,.plain,#[]⟩:=I.obj
  refine PR (Qa (PR (PR (wpAny_loadPart hx (PR (PySem.W.Looks.here (s:={s with toks:=s.toks+1}) (PySem.W.looks_clsIn X hc) ?_))))))
  rw [hd']
  refine Qa (a:=some dx) (PR (Qa (PR ?_)))
  refine wpAny_nsSet1 (s:={s with toks:=s.toks+1}) I.ns fun h' hn2 hs2=>?_
  obtain⟨oD,esD,epD,hoD,hdD,hcD⟩:=hn2.count (PySem.Within.cons name v hw)
  refine PR (wpAny_lookBehind hoD (by rw [hdD];exact pastItsLine_dict (Qq hcD (by rw [Ro];lia))) ?_)
  exact Qa (h _ ⟨(hs2.2 _ (QN I.ne)).trans I.obj,hn2,I.ne⟩ hs2)
theorem AE{R:Result→PB→Prop}{vs:List MG}{kw:List (Str × MG)}(X:K.In s.heap)(hm:PySem.W.makesIn K C=true)
    (hi:Rg K (.ref C) "__init__"=some (some (.ref f)))(hf:PySem.W.typeIn K (.ref f)=some (.type "function"))
    (h:codeAny (PQ prog w) (A.under (.builtin "type.__call__" ⟨.ref C::vs,kw⟩)) (.call (.ref f) ⟨.ref (s.heap.objs.size+1)::vs,kw⟩) (PySem.W.InitBack (s.heap.objs.size+1) R)
      {s with heap:=(s.heap.push RX).push (RZ C s.heap.objs.size)}):
    codeAny (PQ prog w) A (.call (.ref C) ⟨vs,kw⟩) R s:=by
  obtain⟨hh,g,d,t,os⟩:=s
  exact PySem.W.make_core (PySem.W.makes_of X hm) (PySem.W.looks_findIn X hi) (fun self=>PySem.W.bind_fn X self hf) (.inl rfl) h
end
def jd(f:Str)(v:V):List (Str × V)→List (Str × V)
  | []=>[(f,v)]
  | (g,x)::r=>if g=f then(g,v)::r else(g,x)::jd f v r
theorem oI(f g:Str)(v:V):∀fs:List (Str × V),(jd f v fs).lookup g=if g=f then some v else fs.lookup g
  | []=>by
    show QP g [(f,v)]=_
    by_cases h:g=f
    · have hb:(g==f)=true:=beq_iff_eq.mpr h
      simp only [QP,hb,if_pos h]
    · have hb:(g==f)=false:=beq_eq_false_iff_ne.mpr h
      simp only [QP,hb,if_neg h]
  | (k,x)::r=>by
    have ih:=oI f g v r
    rw [show jd f v ((k,x)::r)=(if k=f then(k,v)::r else(k,x)::jd f v r) from rfl]
    by_cases hk:k=f
    · rw [if_pos hk]
      by_cases h:g=k
      · have hb:(g==k)=true:=beq_iff_eq.mpr h
        simp only [QP,hb,if_pos (h.trans hk)]
      · have hb:(g==k)=false:=beq_eq_false_iff_ne.mpr h
        simp only [QP,hb,if_neg (fun e:g=f=>h (e.trans hk.symm))]
    · rw [if_neg hk]
      by_cases h:g=k
      · have hb:(g==k)=true:=beq_iff_eq.mpr h
        simp only [QP,hb,if_neg (fun e:g=f=>hk (h.symm.trans e))]
      · have hb:(g==k)=false:=beq_eq_false_iff_ne.mpr h
        simp only [QP,hb]
        exact ih
theorem nM(f:Str)(v:V):∀fs:List (Str × V),f∈(jd f v fs).map (·.1)∧∀g,g∈fs.map (·.1)→g∈(jd f v fs).map (·.1)
  | []=>⟨by simp [jd],fun g h=>by simp at h⟩
  | (k,x)::r=>by
    obtain⟨i1,i2⟩:=nM f v r
    rw [show jd f v ((k,x)::r)=(if k=f then(k,v)::r else(k,x)::jd f v r) from rfl]
    by_cases hk:k=f
    · rw [if_pos hk]
      subst hk
      exact⟨by simp,fun g h=>by simpa using h⟩
    · rw [if_neg hk]
      refine⟨?_,fun g h=>?_⟩
      · rw [Qk]
        exact QV _ i1
      · rw [Qk] at h ⊢
        rcases Px h with e | e
        · exact Qz.mpr (.inl e)
        · exact QV _ (i2 g e)
theorem oH(f:Str)(v:V):∀fs:List (Str × V),(jd f v fs).length≤fs.length+1
  | []=>by simp [jd]
  | (k,x)::r=>by
    have ih:=oH f v r
    rw [show jd f v ((k,x)::r)=(if k=f then(k,v)::r else(k,x)::jd f v r) from rfl]
    by_cases hk:k=f
    · rw [if_pos hk,Ro,Ro];lia
    · rw [if_neg hk,Ro,Ro];lia
theorem qY.some_of{v:V}{o:Option MG}(r:qY (some v) o):∃u,o=some u∧bN v u:=by
  cases o with
  | none=>exact(show False from r).elim
  | some u=>exact⟨u,rfl,r⟩
theorem qY.none_of{o:Option MG}(r:qY none o):o=none:=by
  cases o with
  | none=>rfl
  | some u=>exact(show False from r).elim
theorem zc{v:V}{u:MG}(r:bN v u):PySem.W.handedIn u=true:=by
  cases v with
  | non=>cases (show u=Value.none from r);rfl
  | bl b=>cases (show u=Value.bool b from r);rfl
  | int i=>obtain⟨t,e⟩:=(show ∃t,u=Value.int i t from r);cases e;rfl
  | str x=>obtain⟨t,e⟩:=(show ∃t,u=Value.str x t from r);cases e;rfl
  | byt b=>obtain⟨t,e⟩:=(show ∃t,u=Value.bytes b t from r);cases e;rfl
  | flt b=>obtain⟨t,e⟩:=(show ∃t,u=Value.float b t from r);cases e;rfl
  | ref a=>cases (show u=Value.ref a from r);rfl
  | ty n=>cases (show u=Value.type n from r);rfl
section
variable{P:PK}{w:PJ}{H H':Hp}{h h':PL}{a C dx:xM}{fs fs':List (Str × V)}
theorem tT(hok:oY P w H h)(e:H a=some (.ins C dx fs)):∃mA,wy h a dx C mA∧(∀f,qY (fs.lookup f) (mA f))∧PySem.Within mA (fs.map (·.1))∧fs.length≤1000∧H dx=some (.own a):=by
  obtain⟨d,z,ne,ob,mA,n,r,q⟩:=(show gO P w H h a (.ins C dx fs) from hok a _ e)
  exact⟨mA,⟨ob,n,ne⟩,r,q,z,d⟩
end
structure qW (K:PF) (C:xM):Prop where
  pg:Tz K C RJ=true
  hd:Um K C=true
  po:PySem.W.plainOver K C=true
  sa:Rg K (.ref C) "__setattr__"=some (some (.builtin "object.__setattr__"))
theorem qW.get{K:PF}{C:xM}(c:qW K C)(f:Str):Tz K C f=true:=c.pg
def bU(K:PF)(C:xM)(f:Str):Prop:=Rg K (.ref C) f=some none
theorem bU.taker{K:PF}{C:xM}{f:Str}(n:bU K C f):PySem.W.takerIn K C f=some none:=by
  unfold PySem.W.takerIn
  rw [show Rg K (.ref C) f=some none from n]
  rfl
structure MA (K:PF) (C:xM) (f:Str) (v:V) (u:MG):Prop where
  at_:Rg K (.ref C) f=some (some u)
  rel:bN v u
  get:PySem.W.specialIn K u "__get__"=some none
  cp:PySem.W.copiedNames.contains f=false
structure nF (K:PF) (C:xM) (m:Str) (f:xM):Prop where
  at_:Rg K (.ref C) m=some (some (.ref f))
  fn:PySem.W.isFn K (.ref f)=true
  kp:Sa K (.ref f)=true
section
variable{X:Cx}{pins:List (xM × Obj)}{σ:St}{H:Hp}{s:PB}{a C dx:xM}{fs:List (Str × V)}{f:Str}{v:V}{A:PP}{E:MG→PB→Prop}
theorem wQ{b:Bool}{Q:MG→PB→Prop}(I:aN X pins σ H s)(e:H a=some (.ins C dx fs))(c:qW X.K C)(n:bU X.K C f)(l:fs.lookup f=some v)
    (h:∀u s',aN X pins σ H s'→bN v u→Q u s'):PM (PQ X.prog X.w) A (getAttr (.ref a) f b) Q E s:=by
  obtain⟨mA,O,r,_,_,_⟩:=tT I.hok e
  obtain⟨u,hu,ru⟩:=qY.some_of (v:=v) (o:=mA f) (by rw [←l];exact r f)
  exact CM I.kIn O (c.get f) c.hd n hu (zc ru) (h u _ (I.tok _) ru)
theorem pT{m:Str}{g:xM}{pl:Sem Bool}{Q:MG × List MG→PB→Prop}(I:aN X pins σ H s)(e:H a=some (.ins C dx fs))(c:qW X.K C)(k:nF X.K C m g)(l:fs.lookup m=none)
    (h:Q (.ref g,[.ref a]) s):PM (PQ X.prog X.w) A (getMethod (.ref a) m pl) Q E s:=by
  obtain⟨mA,O,r,_,_,_⟩:=tT I.hok e
  have hn:mA m=none:=qY.none_of (by rw [←l];exact r m)
  exact Am I.kIn O (c.get m) k.at_ k.fn hn h
theorem xA{y:V}{u:MG}{Q:Unit→PB→Prop}(I:aN X pins σ H s)(e:H a=some (.ins C dx fs))(c:qW X.K C)(n:bU X.K C f)(hl:fs.length < 1000)(ry:bN y u)
    (h:∀s',aN X pins σ (cy H a (.ins C dx (jd f y fs))) s'→Q () s'):PM (PQ X.prog X.w) A (setAttr (.ref a) f u) Q E s:=by
  obtain⟨mA,O,r,wi,_,ho⟩:=tT I.hok e
  have hz:(fs.map (·.1)).length≤PY:=by rw [Qh,QC];lia
  refine D_ I.kIn O c.sa c.po n.taker c.hd wi hz fun h' O' sb=>h _ ?_
  have hd:∃o,h'.get? dx=some o:=let ⟨o,_,_,e',_⟩:=O'.ns;⟨o,e'⟩
  refine I.write (x:=a) (e:=dx) (by rw [e];exact SO) (.inr ho) (fun b q hb z=>(sb.2 b hb).trans z) hd ?_
  refine⟨by rw [aY O.ne];exact ho,?_,O.ne,O'.obj,_,O'.ns,fun g=>?_,fun g hg=>?_⟩
  · have:=oH f y fs;lia
  · show qY ((jd f y fs).lookup g) (if g=f then some u else mA g)
    rw [oI]
    by_cases q:g=f
    · rw [if_pos q,if_pos q];exact ry
    · rw [if_neg q,if_neg q];exact r g
  · by_cases q:g=f
    · rw [q];exact(nM f y fs).1
    · refine(nM f y fs).2 g (wi g fun z=>hg ?_)
      show(if g=f then some u else mA g)=none
      rw [if_neg q];exact z
theorem aN.made(I:aN X pins σ H s):aN X pins σ (cy (cy H s.heap.objs.size (.own (s.heap.objs.size+1))) (s.heap.objs.size+1) (.ins C s.heap.objs.size []))
    {s with heap:=(s.heap.push RX).push (RZ C s.heap.objs.size)}:=by
  have e1:(s.heap.push RX).get? s.heap.objs.size=some RX:=QL s.heap rfl
  have e2:((s.heap.push RX).push (RZ C s.heap.objs.size)).get? (s.heap.objs.size+1)=some (RZ C s.heap.objs.size):=by
    have:=QL (s.heap.push RX) (o:=RZ C s.heap.objs.size) rfl
    rwa [Ta] at this
  have e3:(s.heap.push RX).Ns s.heap.objs.size (fun _=>none):=⟨RX,#[],_,e1,rfl,(fun e he=>absurd he (by simp)),fun _=>rfl⟩
  have I1:=I.laid (a:=s.heap.objs.size) (o:=.own (s.heap.objs.size+1)) (h':=s.heap.push RX) (t':=s.toks) (fun b u q=>Qs _ q) (Qc _) ⟨_,e1⟩
  refine I1.laid (a:=s.heap.objs.size+1) (o:=.ins C s.heap.objs.size []) (t':=s.toks) (fun b u q=>Qs _ q) (Nat.le_of_eq (Ta _ _)) ?_
  have ne:s.heap.objs.size≠s.heap.objs.size+1:=QH (Nat.lt_succ_self _)
  refine⟨by rw [aY ne,aM],Sb _,ne,e2,fun _=>none,(Heap.Ns1.of_empty e3).at fun o q=>Qs _ q,fun _=>SO,fun y hy=>absurd rfl hy⟩
theorem Cz{prog:PK}{w:PJ}{env:Env}{e:PH}{f:Str}{pos:Pos}{s:PB}{Q:MG→PB→Prop}(hb:Rw e f env (PV e env)=PV e env)
    (h:PM (PQ prog w) A (PV e env) (fun o s₁=>PM (PQ prog w) A (getAttr o f true) Q E s₁) E s):PM (PQ prog w) A (PV (.Attribute e f pos) env) Q E s:=
  Attribute_any_ h (by rw [arm_eval_Attribute,hb])
end
def Lp(K:PF)(ta:TE)(f:Str):TE:=fun σ H Q=>ta σ H fun x H1=>∃a C dx fs v,x=.ref a∧H1 a=some (.ins C dx fs)∧qW K C∧bU K C f∧fs.lookup f=some v∧Q v H1
def Li(K:PF)(ta tv:TE)(f:Str):TS:=fun D σ H=>tv σ H fun y H1=>ta σ H1 fun x H2=>∃a C dx fs,x=.ref a∧H2 a=some (.ins C dx fs)∧qW K C∧bU K C f∧fs.length < 1000∧
  D.nx σ (cy H2 a (.ins C dx (jd f y fs)))
section
variable{X:Cx}{o e value:PH}{f:Str}{pos pos' tpos:Pos}{ta tv:TE}
theorem G5(he:PE X e ta)(hb:Rw e f X.env (PV e X.env)=PV e X.env):PE X (.Attribute e f pos) (Lp X.K ta f):=by
  intro pins s σ H Q I h
  refine Cz hb (cZ (he pins s σ H _ I h) fun u s1 ⟨x,H1,I1,rx,a,C,dx,fs,v,ex,ea,c,n,l,q⟩=>?_)
  subst ex
  obtain rfl:u=Value.ref a:=rx
  exact wQ I1 ea c n l fun u' s2 I2 ru=>⟨v,H1,I2,ru,q⟩
theorem Hd(ha:PE X o ta)(hv:PE X value tv)(hs:RW value (some (.Attribute o f pos')) pos.line X.env=pure false):PS X (.Assign [.Attribute o f pos'] value pos) (Li X.K ta tv f):=by
  intro pins s σ H D I h
  refine plainObj_wpAny_Assign_Attribute (cZ (hv pins s σ H _ I h) fun u s1 ⟨y,H1,I1,ry,q⟩=>cZ (ha pins s1 σ H1 _ I1 q) fun ov s2 ⟨x,H2,I2,rx,a,C,dx,fs,ex,ea,c,n,l,q2⟩=>?_) hs
  subst ex
  obtain rfl:ov=Value.ref a:=rx
  exact xA I2 ea c n l ry fun s3 I3=>⟨σ,_,I3,q2⟩
end
section
variable{X:Cx}{pins:List (xM × Obj)}{σ:St}{H:Hp}{s:PB}{A:PP}{E:MG→PB→Prop}{Q:MG→PB→Prop}{c:MG}{b:Bool}
inductive pF (K:PF) (H:Hp):V→MG→Prop where
  | non:pF K H .non (.type "NoneType")
  | bl (x:Bool):pF K H (.bl x) (.type "bool")
  | int (i:Int):pF K H (.int i) (.type "int")
  | str (x:Str):pF K H (.str x) (.type "str")
  | flt (x:UInt64):pF K H (.flt x) (.type "float")
  | lst {a:xM} {xs:List V} (e:H a=some (.lst xs)):pF K H (.ref a) (.type "list")
  | frz {a:xM} {o:Obj} {xs:List V} (e:H a=some (.frz o (.lst xs))):pF K H (.ref a) (.type "list")
  | tup {a:xM} {xs:List V} (e:H a=some (.tup xs)):pF K H (.ref a) (.type "tuple")
  | dK {a:xM} {kvs:List (j1 × V)} (e:H a=some (.dK kvs)):pF K H (.ref a) (.type "dict")
  | dT {a:xM} {kvs:List (List j1 × V)} (e:H a=some (.dT kvs)):pF K H (.ref a) (.type "dict")
  | ins {a C dx:xM} {fs:List (Str × V)} (e:H a=some (.ins C dx fs)) (cl:qW K C) (ha:Rg K (.ref C) "__class__"=some (some (.builtin "object.__class__")))
      (hn:PySem.W.specialIn K (.builtin "object.__class__") "__get__"=some (some (.builtin "getset_descriptor.__get__"))) (htk:PySem.W.takesIn K (.builtin "object.__class__")=some true)
      (hm:PySem.W.mroIn K C (.type "object")=some true):pF K H (.ref a) (.ref C)
end
structure cg (k:Nat) (A:PP):Prop where
  hd:A.handled=none
  dp:A.depth+3*k+5 < recursionLimit
  un:A.units+16*k+200 < cLine
  gd:A.guards=some []
theorem cg.mono{j k:Nat}{A:PP}(r:cg k A)(h:j≤k):cg j A:=⟨r.hd,by have:=r.dp;lia,by have:=r.un;lia,r.gd⟩
theorem cg.deeper{k:Nat}{A:PP}(r:cg (k+1) A)(env:Env):cg k (A.deeper env):=
  ⟨r.hd,by have:=r.dp;show A.depth+1+3*k+5 < _;lia,by have:=r.un;show A.units+3+16*k+200 < _;lia,r.gd⟩
theorem xf{A:PP}{C:xM}{us:List MG}{kw:List (Str × MG)}:(A.under (.builtin "type.__call__" ⟨.ref C::us,kw⟩)).depth=A.depth+1:=by
  first | rfl | simp [TB,Code.weight,Code.isCreation,Code.isGuard,Code.isCaller,Code.frames,Code.isFrame,guardIds]
theorem xg{A:PP}{C:xM}{us:List MG}{kw:List (Str × MG)}:(A.under (.builtin "type.__call__" ⟨.ref C::us,kw⟩)).units=A.units+1:=by
  first | rfl | simp [TB,Code.cUnits,Code.frames,Code.isFrame]
theorem cg.make{k:Nat}{A:PP}(r:cg (k+1) A)(C:xM)(us:List MG)(kw:List (Str × MG)):cg k (A.under (.builtin "type.__call__" ⟨.ref C::us,kw⟩)):=
  ⟨r.hd,by have:=r.dp;rw [xf];lia,by have:=r.un;rw [xg];lia,by first | exact r.gd | simpa [TB,Code.isGuard,guardIds] using r.gd⟩
theorem cg.depth{k:Nat}{A:PP}(r:cg k A):A.depth < recursionLimit:=by have:=r.dp;lia
theorem cg.units{k:Nat}{A:PP}(r:cg k A):A.units+64 < cLine:=by have:=r.un;lia
def B3:TA:=fun _ H Q=>Q [] H
def oU(ta:TE)(tr:TA):TA:=fun σ H Q=>ta σ H fun x H1=>tr σ H1 fun xs H2=>Q (x::xs) H2
section
variable{X:Cx}{e:PH}{es:List PH}{te:TE}{t:TA}{pos:Pos}
theorem lR:PA X [] B3:=fun _ _ _ _ H Q I h=>Calls.spliced_nil ⟨[],H,I,.nil,h⟩
theorem mP(ha:PE X e te)(hr:PA X es t)(hs:PU (e::es) X.env=(false,PV e X.env)::PU es X.env:=by rfl):PA X (e::es) (oU te t):=by
  intro pos pins s σ H Q I h
  rw [hs]
  show PM _ _ (spliced ((false,PV e X.env)::Qf pos (PU es X.env))) _ _ s
  refine Calls.spliced_cons (cZ (ha pins s σ H _ I h) fun u s1 ⟨x,H1,I1,r1,q1⟩=>?_)
  exact cZ (hr pos pins s1 σ H1 _ I1 q1) fun us s2 ⟨xs,H2,I2,r2,q2⟩=>⟨x::xs,H2,I2,.cons r1 r2,q2⟩
def J7(t:TA):TE:=fun σ H Q=>t σ H fun xs H1=>xs.length≤PY∧∀p,H1 p=none→Q (.ref p) (cy H1 p (.tup xs))
def J1(t:TA):TE:=fun σ H Q=>t σ H fun xs H1=>xs.length≤PY∧∀p,H1 p=none→Q (.ref p) (cy H1 p (.lst xs))
theorem G_{x1}(h:PA X es t):PE X (.Tuple es x1 pos) (J7 t):=by
  intro pins s σ H Q I hq
  refine wpAny_Tuple_spliced (cZ (h pos pins s σ H _ I hq) fun us s1 ⟨xs,H1,I1,r,z,q⟩=>⟨by rw [←r.length];exact z,?_⟩)
  have hf:H1 s1.heap.objs.size=none:=I1.hok.fresh (Qc _)
  refine⟨.ref s1.heap.objs.size,cy H1 s1.heap.objs.size (.tup xs),I1.laid (t':=s1.toks) (fun b u e=>Qs _ e) (Qc _) ?_,rfl,q _ hf⟩
  exact⟨z,us,r,⟨_,QL _ rfl,rfl,_,rfl,rfl⟩⟩
theorem G7(h:PA X es t):PE X (.List es pos) (J1 t):=by
  intro pins s σ H Q I hq
  refine wpAny_List_spliced (cZ (h pos pins s σ H _ I hq) fun us s1 ⟨xs,H1,I1,r,z,q⟩=>⟨by rw [←r.length];exact z,?_⟩)
  have hf:H1 s1.heap.objs.size=none:=I1.hok.fresh (Qc _)
  refine⟨.ref s1.heap.objs.size,cy H1 s1.heap.objs.size (.lst xs),I1.laid (t':=s1.toks) (fun b u e=>Qs _ e) (Qc _) ?_,rfl,q _ hf⟩
  exact⟨z,us,0,r,QL _ rfl⟩
end
abbrev Sp:=List V→Hp→VK→XK→Prop
abbrev uH:=List Env→Hp→PB→XK→MG→PB→Prop
structure wx (P:PK) (w:PJ) (K:PF) (mg:Str→Option MG) (base:PL) (A:PP) (outer:List Env) (s:PB) (H:Hp):Prop where
  frames:A.frames=some outer
  mod:Mod K mg base
  bs:∀b o,base.get? b=some o→s.heap.get? b=some o∧H b=none
  bsz:base.objs.size≤s.heap.objs.size
  funs:s.heap.FunFrames base outer
  frf:∀b∈Ac outer,H b=none
  hok:oY P w H s.heap
  bare:AllBare s.gens
def CE(outer:List Env)(P:PK)(w:PJ)(H:Hp)(s:PB)(Q:VK)(u:MG)(s':PB):Prop:=
  ∃v H',s'.os=s.os∧AllBare s'.gens∧Un (Ac outer) [] H H' s.heap s'.heap∧oY P w H' s'.heap∧bN v u∧Q v H'
def CR(CX:uH)(outer:List Env)(P:PK)(w:PJ)(H:Hp)(s:PB)(Q:VK)(E:XK)(r:Result)(s':PB):Prop:=
  match r with
  | .ok (.ret u)=>CE outer P w H s Q u s'
  | .ok _=>False
  | .error e=>CX outer H s E e s'
structure aP (P:PK) (w:PJ) (K:PF) (mg:Str→Option MG) (base:PL) (CX:uH) (k:Nat) (f:xM) (fd:PZ) (ps:List Str) (sp:Sp):Prop where
  len:∀vs H Q E,sp vs H Q E→vs.length=ps.length
  run:∀(A:PP) (outer:List Env) (s:PB) (H:Hp) (args:Args) (us:List MG) (vs:List V) (Q:VK) (E:XK),cg k A→wx P w K mg base A outer s H→BindsTo s fd args (ps.zip us)→aV vs us→sp vs H Q E→
    codeAny (PQ P w) A (.call (.ref f) args) (CR CX outer P w H s Q E) s
theorem aP.mono{P:PK}{w:PJ}{K:PF}{mg:Str→Option MG}{base:PL}{CX:uH}{j k:Nat}{f:xM}{fd:PZ}{ps:List Str}{sp:Sp}(F:aP P w K mg base CX j f fd ps sp)(h:j≤k):
    aP P w K mg base CX k f fd ps sp:=⟨F.len,fun A outer s H args us vs Q E hr=>F.run A outer s H args us vs Q E (hr.mono h)⟩
theorem aP.imp{P:PK}{w:PJ}{K:PF}{mg:Str→Option MG}{base:PL}{CX:uH}{k:Nat}{f:xM}{fd:PZ}{ps:List Str}{sp sp':Sp}(F:aP P w K mg base CX k f fd ps sp)
    (h:∀vs H Q E,sp' vs H Q E→sp vs H Q E):aP P w K mg base CX k f fd ps sp':=
  ⟨fun vs H Q E q=>F.len vs H Q E (h _ _ _ _ q),fun A outer s H args us vs Q E hr he hb hv hs=>F.run A outer s H args us vs Q E hr he hb hv (h _ _ _ _ hs)⟩
theorem wx.make{P:PK}{w:PJ}{K:PF}{mg:Str→Option MG}{base:PL}{A:PP}{outer:List Env}{s:PB}{H:Hp}(e:wx P w K mg base A outer s H)(C:xM)(us:List MG)(kw:List (Str × MG)):
    wx P w K mg base (A.under (.builtin "type.__call__" ⟨.ref C::us,kw⟩)) outer s H:=⟨by first | exact e.frames | (simpa [TB,Code.envs,Code.isFrame,pushEnvs] using e.frames),e.mod,e.bs,e.bsz,e.funs,e.frf,e.hok,e.bare⟩
section
variable{X:Cx}{pins:List (xM × Obj)}{σ:St}{H:Hp}{s s':PB}
theorem aN.env0(I:aN X pins σ H s):wx X.prog X.w X.K X.mg X.base X.A X.stack s H:=
  ⟨I.ok.frames,I.ok.mod,I.bs,Qq I.ok.bsz I.sz,I.stack,I.stkFree,I.hok,I.bare⟩
theorem aN.after{Q:VK}{u:MG}(I:aN X pins σ H s)(h:CE X.stack X.prog X.w H s Q u s'):EP X pins σ Q u s':=by
  obtain⟨v,H',os,bare,un,hok,r,q⟩:=h
  obtain⟨hh,g,d,t,os'⟩:=s'
  obtain rfl:os'=s.os:=os
  exact⟨v,H',I.call (h':=hh) (g':=g) (d':=d) (t':=t) (ch:=[]) un hok bare (fun b z=>absurd z (by simp)),r,q⟩
end
def sJ(sp:Sp)(dvs:List V)(E:XK)(t:TA):TE:=fun σ H Q=>t σ H fun vs H1=>sp (vs++dvs) H1 Q E
def B2(C:xM)(m:Str)(sp:Sp)(dvs:List V)(E:XK)(ta:TE)(t:TA):TE:=fun σ H Q=>ta σ H fun x H1=>∃a dx fs,x=.ref a∧H1 a=some (.ins C dx fs)∧fs.lookup m=none∧
  t σ H1 fun vs H2=>sp (x::(vs++dvs)) H2 Q E
def J2(C:xM)(sp:Sp)(dvs:List V)(E:XK)(t:TA):TE:=fun σ H Q=>t σ H fun vs H1=>∀x dx,H1 x=none→H1 dx=none→dx≠x→
  sp (.ref x::(vs++dvs)) (cy (cy H1 dx (.own x)) x (.ins C dx [])) (fun v H2=>v=.non∧Q (.ref x) H2) E
def eQ(K:PF)(fd:PZ)(ps:List Str)(ds:List MG):Prop:=
  ∀(s:PB) (us:List MG),K.In s.heap→(us++ds).length=ps.length→BindsTo s fd ⟨us,[]⟩ (ps.zip (us++ds))
theorem eQ.all{K:PF}{fd:PZ}{ps:List Str}(h:∀us:List MG,us.length=ps.length→bindArgs fd ⟨us,[]⟩=pure (ps.zip us)):eQ K fd ps []:=fun s us _ hl=>by
  rw [Rh] at hl ⊢
  exact .of_eq (h us hl)
def lD(CX:uH)(X:Cx)(E:XK):Prop:=∀(pins:List (xM × Obj)) (σ:St) (H:Hp) (s:PB) (e:MG) (s':PB),aN X pins σ H s→CX X.stack H s E e s'→X.xe e s'
section
variable{X:Cx}{CX:uH}{k:Nat}{f C:xM}{fd:PZ}{ps:List Str}{sp:Sp}{dvs:List V}{ds:List MG}{E:XK}{x m:Str}{p pos apos:Pos}{e o:PH}{es:List PH}{ta:TE}{t:TA}
theorem uo{pins:List (xM × Obj)}{σ:St}{H:Hp}{s:PB}{Q:VK}{us:List MG}{vs:List V}(F:aP X.prog X.w X.K X.mg X.base CX k f fd ps sp)(hr:cg k X.A)(hb:eQ X.K fd ps ds)(hd:aV dvs ds)(hx:lD CX X E)
    (I:aN X pins σ H s)(r:aV vs us)(h:sp (vs++dvs) H Q E):PM (PQ X.prog X.w) X.A (call (.ref f) us) (EP X pins σ Q) X.xe s:=by
  have r2:aV (vs++dvs) (us++ds):=r.append hd
  have hl:(us++ds).length=ps.length:=by rw [←r2.length];exact F.len _ _ _ _ h
  refine wpAny_call (codeAny_mono (F.run X.A X.stack s H ⟨us,[]⟩ (us++ds) (vs++dvs) Q E hr I.env0 (hb s us I.kIn hl) r2 h) fun r s' hq=>?_)
  cases r with
  | error e=>exact hx pins σ H s e s' I hq
  | ok fl=>
    cases fl with
    | ret u=>exact I.after hq
    | next=>exact Rf hq
    | brk=>exact Rf hq
    | cont=>exact Rf hq
theorem Dz(F:aP X.prog X.w X.K X.mg X.base CX k f fd ps sp)(hr:cg k X.A)(hg:Gl X x)(hm:X.mg x=some (.ref f))(hk:Sa X.K (.ref f)=true)(hb:eQ X.K fd ps ds)(hd:aV dvs ds)(hx:lD CX X E)
    (ha:PA X (e::es) t)(hdb:(x==("__debug__":Str))=false:=by decide)(he:PU (e::es) X.env=(false,PV e X.env)::PU es X.env:=by rfl)(hpl:(Qf pos (PU es X.env)).any (·.1)=false:=by rfl):
    PE X (.Call (.Name x p) (e::es) [] pos) (sJ sp dvs E t):=by
  intro pins s σ H Q I h
  refine Tc (mJ I hg hm ?_ hdb)
  refine TC (h₀:=X.base) I.ok.mod.kin hk (cZ (ha pos pins s σ H _ I h) fun us s1 ⟨vs,H1,I1,r,q⟩=>⟨I1.kIn,?_⟩) he hpl
  exact uo F hr hb hd hx I1 r q
theorem DE{pl:Sem Bool}(he:PE X o ta)(c:qW X.K C)(hm:nF X.K C m f)(F:aP X.prog X.w X.K X.mg X.base CX k f fd ps sp)(hr:cg k X.A)(hb:eQ X.K fd ps ds)(hd:aV dvs ds)(hx:lD CX X E)(ha:PA X (e::es) t)
    (hst:PU (e::es) X.env=(false,PV e X.env)::PU es X.env:=by rfl)(hpl:(Qf pos (PU es X.env)).any (·.1)=false:=by rfl)
    (ht:PV (.Call (.Attribute o m apos) (e::es) [] pos) X.env=(do
      let ov ←PV o X.env
      RH apos.atName
      let (f,first) ←Rm [ov] (getMethod ov m pl)
      callWith pos f first (Qf pos (PU (e::es) X.env)) (Rz pos (RB [] X.env))):=by rfl):
    PE X (.Call (.Attribute o m apos) (e::es) [] pos) (B2 C m sp dvs E ta t):=by
  intro pins s σ H Q I h
  refine PySem.W.methodCall_KW (pl:=pl) (cZ (he pins s σ H _ I h) fun u s1 ⟨x,H1,I1,rx,a,dx,fs,ex,ea,l,q⟩=>?_) ht
  subst ex
  obtain rfl:u=Value.ref a:=rx
  refine pT I1 ea c hm l ?_
  refine TC (first:=[.ref a]) (h₀:=X.base) I.ok.mod.kin hm.kp (cZ (ha pos pins s1 σ H1 _ I1 q) fun us s2 ⟨vs,H2,I2,r,q2⟩=>⟨I2.kIn,?_⟩) hst hpl
  exact uo (us:=.ref a::us) (vs:=.ref a::vs) F hr hb hd hx I2 (.cons rfl r) q2
theorem A_{pl:Sem Bool}(he:PE X o ta)(c:qW X.K C)(hm:nF X.K C m f)(F:aP X.prog X.w X.K X.mg X.base CX k f fd ps sp)(hr:cg k X.A)(hb:eQ X.K fd ps ds)(hd:aV dvs ds)(hx:lD CX X E)
    (ht:PV (.Call (.Attribute o m apos) [] [] pos) X.env=(do
      let ov ←PV o X.env
      RH apos.atName
      let (f,first) ←Rm [ov] (getMethod ov m pl)
      callWith pos f first (Qf pos (PU [] X.env)) (Rz pos (RB [] X.env))):=by rfl):
    PE X (.Call (.Attribute o m apos) [] [] pos) (B2 C m sp dvs E ta B3):=by
  intro pins s σ H Q I h
  refine PySem.W.methodCall_KW (pl:=pl) (cZ (he pins s σ H _ I h) fun u s1 ⟨x,H1,I1,rx,a,dx,fs,ex,ea,l,q⟩=>?_) ht
  subst ex
  obtain rfl:u=Value.ref a:=rx
  refine pT I1 ea c hm l ?_
  exact PySem.W.callWith_K0 (first:=[.ref a]) I1.kIn hm.kp (uo (us:=[.ref a]) (vs:=[.ref a]) F hr hb hd hx I1 (.cons rfl .nil) q)
structure Mk (K:PF) (C f:xM):Prop where
  makes:PySem.W.makesIn K C=true
  init:Rg K (.ref C) "__init__"=some (some (.ref f))
  fn:PySem.W.isFn K (.ref f)=true
  kp:Sa K (.ref C)=true
theorem BI{pins:List (xM × Obj)}{σ:St}{H:Hp}{s:PB}{Q:VK}{us:List MG}{vs:List V}(M:Mk X.K C f)(F:aP X.prog X.w X.K X.mg X.base CX k f fd ps sp)(hr:cg (k+1) X.A)(hb:eQ X.K fd ps ds)(hd:aV dvs ds)
    (hx:lD CX X E)(I:aN X pins σ H s)(r:aV vs us)
    (h:∀x dx,H x=none→H dx=none→dx≠x→sp (.ref x::(vs++dvs)) (cy (cy H dx (.own x)) x (.ins C dx [])) (fun v H2=>v=.non∧Q (.ref x) H2) E):
    PM (PQ X.prog X.w) X.A (call (.ref C) us) (EP X pins σ Q) X.xe s:=by
  have hq:=h (s.heap.objs.size+1) s.heap.objs.size (I.hok.fresh (Nat.le_succ _)) (I.hok.fresh (Qc _)) (QH (Nat.lt_succ_self _))
  have I2:=aN.made (C:=C) I
  have r2:aV (V.ref (s.heap.objs.size+1)::(vs++dvs)) (Value.ref (s.heap.objs.size+1)::(us++ds)):=.cons rfl (r.append hd)
  have hl:(Value.ref (s.heap.objs.size+1)::us++ds).length=ps.length:=by
    have e:=r2.length
    rw [F.len _ _ _ _ hq] at e
    exact e.symm
  refine wpAny_call (AE (f:=f) I.kIn M.makes M.init (beq_iff_eq.mp M.fn) (codeAny_mono (F.run _ X.stack _ _ ⟨Value.ref (s.heap.objs.size+1)::us,[]⟩ (Value.ref (s.heap.objs.size+1)::(us++ds)) _ _ E (hr.make C us [])
    (I2.env0.make C us []) (hb _ (Value.ref (s.heap.objs.size+1)::us) I2.kIn hl) r2 hq) fun r s' hq'=>?_))
  cases r with
  | error e=>exact hx pins σ _ _ e s' I2 hq'
  | ok fl=>
    cases fl with
    | ret u=>
      obtain⟨v,H',I3,rv,ev,q3⟩:=I2.after hq'
      subst ev
      exact⟨rv,⟨V.ref (s.heap.objs.size+1),H',I3,rfl,q3⟩⟩
    | next=>exact Rf hq'
    | brk=>exact Rf hq'
    | cont=>exact Rf hq'
theorem DD(M:Mk X.K C f)(F:aP X.prog X.w X.K X.mg X.base CX k f fd ps sp)(hr:cg (k+1) X.A)(hg:Gl X x)(hm:X.mg x=some (.ref C))(hb:eQ X.K fd ps ds)(hd:aV dvs ds)(hx:lD CX X E)
    (ha:PA X (e::es) t)(hdb:(x==("__debug__":Str))=false:=by decide)(he:PU (e::es) X.env=(false,PV e X.env)::PU es X.env:=by rfl)(hpl:(Qf pos (PU es X.env)).any (·.1)=false:=by rfl):
    PE X (.Call (.Name x p) (e::es) [] pos) (J2 C sp dvs E t):=by
  intro pins s σ H Q I h
  refine Tc (mJ I hg hm ?_ hdb)
  refine TC (h₀:=X.base) I.ok.mod.kin M.kp (cZ (ha pos pins s σ H _ I h) fun us s1 ⟨vs,H1,I1,r,q⟩=>⟨I1.kIn,?_⟩) he hpl
  exact BI M F hr hb hd hx I1 r q
end
section
variable{X:Cx}{CX:uH}{k:Nat}{f C:xM}{fd:PZ}{ps ks:List Str}{sp:Sp}{E:XK}{x m:Str}{p pos apos kpos:Pos}{e o:PH}{es:List PH}{kws:List QQ}{te ta:TE}{t tk:TA}{nm:Option Str}
structure KA (K:PF) (fd:PZ) (ps ks:List Str) (g:List MG→List MG→List MG) (gV:List V→List V→List V):Prop where
  to:∀(s:PB) (us ws:List MG),K.In s.heap→(g us ws).length=ps.length→BindsTo s fd ⟨us,ks.zip ws⟩ (ps.zip (g us ws))
  rel:∀{vs:List V} {us:List MG} {zs:List V} {ws:List MG},aV vs us→aV zs ws→aV (gV vs zs) (g us ws)
variable{g:List MG→List MG→List MG}{gV:List V→List V→List V}
end
structure az (N P:List Str) (sc:Qm):Prop where
  kind:sc.kind=.function
  co:sc.isCoroutine=false
  gen:sc.isGenerator=false
  nd:N.Nodup
  pre:N.take P.length=P
  par:∀x∈P,sc.names.lookup x=some .local∨sc.names.lookup x=some .cell
  nofree:∀y∈sc.names,y.2≠.free
theorem rM{Rj:Str→Option QR}{x:Str}:∀{binds:List (Str × MG)} {m:Str→Option MG},(∀v,(x,v)∉binds)→bindL Rj binds m x=m x
  | [],_,_=>rfl
  | (n,v)::r,m,h=>by
    unfold bindL
    rw [rM fun w hw=>h w (QV _ hw)]
    split
    · have:x≠n:=by rintro rfl;exact h v RG
      simp [this]
    · rfl
theorem rK{Rj:Str→Option QR}{x:Str}:∀{binds:List (Str × MG)} {m:Str→Option MG},(∀v,(x,v)∉binds)→bindC Rj binds m x=m x
  | [],_,_=>rfl
  | (n,v)::r,m,h=>by
    unfold bindC
    rw [rK fun w hw=>h w (QV _ hw)]
    split
    · rfl
    · have:x≠n:=by rintro rfl;exact h v RG
      simp [this]
theorem rL{Rj:Str→Option QR}{x:Str}{v:MG}:∀{P:List Str} {vs:List MG} {i:Nat} {m:Str→Option MG},P.Nodup→P[i]?=some x→vs[i]?=some v→Rj x=some .local→
    bindL Rj (P.zip vs) m x=some v
  | [],_,_,_,_,h,_,_=>by simp at h
  | _::_,[],_,_,_,_,h,_=>by simp at h
  | p::P,w::vs,0,m,nd,h1,h2,hk=>by
    simp at h1 h2;subst h1;subst h2
    show bindL Rj ((p,w)::P.zip vs) m p=_
    unfold bindL
    rw [rM fun v hv=>(Sd.mp nd).1 (List.of_mem_zip hv).1,if_pos hk]
    simp
  | p::P,w::vs,i+1,m,nd,h1,h2,hk=>by
    show bindL Rj ((p,w)::P.zip vs) m x=_
    unfold bindL
    exact rL (i:=i) (Sd.mp nd).2 (by simpa using h1) (by simpa using h2) hk
theorem rJ{Rj:Str→Option QR}{x:Str}{v:MG}:∀{P:List Str} {vs:List MG} {i:Nat} {m:Str→Option MG},P.Nodup→P[i]?=some x→vs[i]?=some v→Rj x≠some .local→
    bindC Rj (P.zip vs) m x=some v
  | [],_,_,_,_,h,_,_=>by simp at h
  | _::_,[],_,_,_,_,h,_=>by simp at h
  | p::P,w::vs,0,m,nd,h1,h2,hk=>by
    simp at h1 h2;subst h1;subst h2
    show bindC Rj ((p,w)::P.zip vs) m p=_
    unfold bindC
    rw [rK fun v hv=>(Sd.mp nd).1 (List.of_mem_zip hv).1,if_neg hk]
    simp
  | p::P,w::vs,i+1,m,nd,h1,h2,hk=>by
    show bindC Rj ((p,w)::P.zip vs) m x=_
    unfold bindC
    exact rJ (i:=i) (Sd.mp nd).2 (by simpa using h1) (by simpa using h2) hk
def iP(N:List Str)(vs:List V):St:=vs.map some++PX (N.length - vs.length) none
def uT(CX:uH)(P:PK)(w:PJ)(K:PF)(mg:Str→Option MG)(base:PL)(N:List Str)(qual:Str)(scope:Qm)(f:xM)(cd:MG)(A:PP)(outer:List Env)(s:PB)(H:Hp)(E:XK):Cx where
  prog:=P
  w:=w
  K:=K
  mg:=mg
  base:=base
  A:=A.deeper (envOfC qual scope s.heap.objs.size f cd)
  N:=N
  s₀:=s
  H₀:=H
  env:=envOfC qual scope s.heap.objs.size f cd
  outer:=outer
  stack:=envOfC qual scope s.heap.objs.size f cd::outer
  ex:=[]
  calm:=true
  fn:=fun _=>true
  pn:=[]
  xe:=fun e s'=>PM (PQ P w) (A.deeper (envOfC qual scope s.heap.objs.size f cd)) (leaving (envOfC qual scope s.heap.objs.size f cd) e) (fun _ s''=>CX outer H s E e s'') (fun e' s''=>CX outer H s E e' s'') s'
theorem uQ{sc:Qm}{n:Nat}{x:Str}(h:sc.names.lookup x=some .cell):∃c,(Qo n sc.names []).lookup x=some c:=by
  have q:=PySem.W.cellsFrom_some sc.names n [] (.inl h)
  exact Option.isSome_iff_exists.mp q
theorem zg{CX:uH}{P:PK}{w:PJ}{K:PF}{mg:Str→Option MG}{base:PL}{N ps:List Str}{qual:Str}{scope:Qm}{f:xM}{cd:MG}{A:PP}{outer:List Env}{s s1:PB}{H:Hp}{E:XK}{us:List MG}{vs:List V}
    (S:az N ps scope)(hd:A.handled=none)(e0:wx P w K mg base A outer s H)(hl:vs.length=ps.length)(r:aV vs us)
    (x:InCallC s s.heap.objs.size (bindL (envOfC qual scope s.heap.objs.size f cd).kindOf (ps.zip us) fun _=>none) (Qo (s.heap.objs.size+1) scope.names []) (bindC (envOfC qual scope s.heap.objs.size f cd).kindOf (ps.zip us) fun _=>none) s1):
    aN (uT CX P w K mg base N qual scope f cd A outer s H E) [] (iP N vs) H s1:=by
  have hpl:ps.length≤N.length:=by have:=congrArg List.length S.pre;rw [List.length_take] at this;lia
  obtain⟨h1,tk,rfl,hk⟩:=x.done
  have noA:∀b:xM,b∉(uT CX P w K mg base N qual scope f cd A outer s H E).ex:=fun b z=>absurd (show b∈([]:List xM) from z) (by simp)
  refine⟨⟨e0.mod,S.kind,rfl,rfl,Qc _,fun y z c h1 h2=>?_,fun y hy=>?_,fun y c _ h=>?_,fun _=>hd,Around.frames_deeper e0.frames,.inr ⟨rfl,rfl⟩,fun b z=>absurd z (noA b),e0.bs,e0.bsz,fun b _ _=>noA b,fun b z=>absurd z (noA b),e0.funs,e0.frf⟩,
    rfl,e0.bare,Un.kept hk,⟨_,x.toInCall.ns,fun i y v h1 h2 h3=>?_⟩,fun y c h=>⟨_,x.cell y c h⟩,e0.hok.fresh (Qc _),fun y c h=>?_,fun p hp=>absurd (show p∈([]:List (xM × Obj)) from hp) (by simp),e0.hok.kept hk,?_⟩
  · exact name_of_addr x.apart (Td h1) (Td h2)
  · have hy:scope.names.lookup y=some .cell∨scope.names.lookup y=some .free:=hy
    rcases hy with hy | hy
    · exact uQ hy
    · exact absurd rfl (S.nofree _ (Td hy))
  · exact Sm (x.above y c (Td h))
  · have hi:i < vs.length:=by
      unfold iP at h2
      by_cases hi:i < vs.length
      · exact hi
      · rw [List.getElem?_append_right (by simpa using hi)] at h2
        rw [Uq] at h2
        split at h2<;>cases h2
    have ha:vs[i]?=some v:=by
      unfold iP at h2
      rw [RC (by simpa using hi),Qu] at h2
      cases e:vs[i]? with
      | none=>rw [e] at h2;cases h2
      | some a=>rw [e] at h2;cases h2;rfl
    obtain⟨u,hu,rv⟩:=r.get ha
    have hp:ps[i]?=some y:=by
      rw [←S.pre,List.getElem?_take_of_lt (by lia)];exact h1
    have ndP:ps.Nodup:=by rw [←S.pre];exact S.nd.sublist (List.take_sublist _ _)
    refine⟨u,rv,?_⟩
    rcases S.par y (Py hp) with k | k
    · exact .inl ⟨k,rL ndP hp hu k⟩
    · obtain⟨c,e⟩:=uQ (n:=s.heap.objs.size+1) k
      refine .inr ⟨.inl k,c,e,?_⟩
      have q:=x.cell y c e
      rw [rJ ndP hp hu (by show scope.names.lookup y≠_;rw [k];decide)] at q
      exact q
  · exact e0.hok.fresh (Sm (x.above y c (Td h)))
  · unfold iP
    show _=N.length
    rw [Se,Qh,Ur]
    lia
theorem IJ{CX:uH}{P:PK}{w:PJ}{K:PF}{mg:Str→Option MG}{base:PL}{k:Nat}{f:xM}{name qual:Str}{params:Arguments}{body:List PN}{scope:Qm}{dV kV doc pm cdv ct oc:MG}{an od:Option xM}
    {osl:Array (Option MG)}{N ps:List Str}{sp:Sp}(lk:K.lookup f=some ⟨oc,od,.func (Rb name qual params body scope dV kV doc pm an cdv ct),osl⟩)(hcd:Te K cdv qual=true)(S:az N ps scope)
    (len:∀vs H Q E,sp vs H Q E→vs.length=ps.length)
    (hbody:∀(A:PP) (outer:List Env) (s:PB) (H:Hp) (vs:List V) (Q:VK) (E:XK),cg k (A.deeper (envOfC qual scope s.heap.objs.size f cdv))→sp vs H Q E→
      ∃t,kQ (uT CX P w K mg base N qual scope f cdv A outer s H E) body t∧t {nx:=fun _ H'=>Q .non H',rt:=Q} (iP N vs) H):
    aP P w K mg base CX (k+1) f (Rb name qual params body scope dV kV doc pm an cdv ct) ps sp:=by
  refine⟨len,fun A outer s H args us vs Q E hr e0 hb r hsp=>?_⟩
  have hl:=len _ _ _ _ hsp
  have KX:K.In s.heap:=e0.mod.kin.keeps fun b o e=>(e0.bs b o e).1
  have lim:s.heap.NoLimit:=e0.mod.nolimit.keeps fun b o e=>(e0.bs b o e).1
  have hkind:∀y∈ps.zip us,scope.names.lookup y.1=some .local∨(scope.names.lookup y.1=some .cell∧((Qo (s.heap.objs.size+1) scope.names []).lookup y.1).isSome=true):=fun⟨n,v⟩ hy=>by
    rcases S.par n (List.of_mem_zip hy).1 with q | q
    · exact .inl q
    · exact .inr ⟨q,PySem.W.cellsFrom_some _ _ _ (.inl q)⟩
  refine codeAny_call_function hr.depth (KX _ _ lk) rfl S.co S.gen rfl (PySem.W.codeRec_of KX hcd) (hb _ _ _ _ ?_)
  refine wpAny_newFunctionEnv_cells S.kind hkind fun env he s1 x=>?_
  subst he
  refine⟨lim.keeps x.toInCall.keep,codeAny_func ?_⟩
  obtain⟨t,ht,hq⟩:=hbody A outer s H vs Q E (hr.deeper _) hsp
  have I:aN (uT CX P w K mg base N qual scope f cdv A outer s H E) [] (iP N vs) H s1:=zg S hr.hd e0 hl r x
  refine Re (ht [] s1 (iP N vs) H _ I hq) (fun fl s' hs=>?_) fun e s' hs=>hs
  have fin:∀{σ':St} {H':Hp} {v:V} {u:MG},aN (uT CX P w K mg base N qual scope f cdv A outer s H E) [] σ' H' s'→bN v u→Q v H'→CE outer P w H s Q u s':=
    fun{σ' H' v u} J rv q=>⟨v,H',J.os,J.bare,J.base,J.hok,rv,q⟩
  cases fl with
  | ret u=>
    obtain⟨v,σ',H',J,rv,q⟩:=hs
    exact fin J rv q
  | next=>
    obtain⟨σ',H',J,q⟩:=hs
    exact fin (v:=V.non) (u:=Value.none) J rfl q
  | brk=>
    obtain⟨_,_,_,q⟩:=hs
    exact Rf q
  | cont=>
    obtain⟨_,_,_,q⟩:=hs
    exact Rf q
section
variable{X:Cx}{x:Str}{p pos:Pos}{e:PH}{es:List PH}{t:TA}{id T:String}{r:List V→Hp→VK→Prop}
def Kq(r:List V→Hp→VK→Prop)(t:TA):TE:=fun σ H Q=>t σ H fun vs H1=>r vs H1 Q
theorem qg(hc:dX X (.builtin id) r)(hg:Gl X x)(hm:X.mg x=none)(hv:Rt x=some (.builtin id))(ha:PA X (e::es) t)(hn:x≠"__name__":=by decide)(hdb:(x==("__debug__":Str))=false:=by decide)
    (he:PU (e::es) X.env=(false,PV e X.env)::PU es X.env:=by rfl)(hpl:(Qf pos (PU es X.env)).any (·.1)=false:=by rfl):PE X (.Call (.Name x p) (e::es) [] pos) (Kq r t):=by
  intro pins s σ H Q I h
  refine Tc (t_ I hg hm hv ?_ hn hdb)
  exact PyProof.Rows.callWith_builtin1 (cZ (ha pos pins s σ H _ I h) fun us s1 ⟨vs,H1,I1,r1,q1⟩=>hc pins s1 σ H1 vs us Q I1 r1 q1) he hpl
theorem sr(hc:dX X (.type T) r)(hg:Gl X x)(hm:X.mg x=none)(hv:Rt x=some (.type T))(ha:PA X (e::es) t)(hn:x≠"__name__":=by decide)(hdb:(x==("__debug__":Str))=false:=by decide)
    (he:PU (e::es) X.env=(false,PV e X.env)::PU es X.env:=by rfl)(hpl:(Qf pos (PU es X.env)).any (·.1)=false:=by rfl):PE X (.Call (.Name x p) (e::es) [] pos) (Kq r t):=by
  intro pins s σ H Q I h
  refine Tc (t_ I hg hm hv ?_ hn hdb)
  exact UK (cZ (ha pos pins s σ H _ I h) fun us s1 ⟨vs,H1,I1,r1,q1⟩=>hc pins s1 σ H1 vs us Q I1 r1 q1) he hpl
end
end L2
namespace HT
open PySem PyProof.Rows
section
open PySem.SeqAt
open PySem.AutoSeq1 (wpAny_loadPart')
open PySem.MeetsSeq PySem.MeetsSeq2 PySem.MeetsSeq3
end
section
variable{prog:PK}{w:PJ}{A:PP}{E:MG→PB→Prop}{s:PB}
theorem cat_tup{t b:xM}{vs ws:List MG}{Q:MG→PB→Prop}(ht:IsTup s.heap t vs.toArray)(hb:IsTup s.heap b ws.toArray)(hv:vs≠[])
    (h1:ws=[]→Q (.ref t) s)(h2:ws≠[]→Q (.ref s.heap.objs.size) {s with heap:=s.heap.push {cls:=.type "tuple",data:=.seq (vs++ws).toArray}})
    (hsz:vs.length+ws.length≤PY):PM (PQ prog w) A (Qt .Add (.ref t) (.ref b)) Q E s:=by
  obtain⟨⟨cls,dd,data,sl⟩,ho,hc,n,hd⟩:=id ht
  obtain⟨⟨cls2,dd2,data2,sl2⟩,ho2,hc2,n2,hd2⟩:=id hb
  simp only at hc hd hc2 hd2
  subst hc hd hc2 hd2
  have e:vs.toArray++ws.toArray=(vs++ws).toArray:=by simp
  by_cases hw:ws=[]
  · exact concat_meets ⟨_,ho,rfl⟩ ⟨_,ho2,rfl⟩ noFill_tuple_add seq_tuple_add PySem.F.slot_tuple_add PySem.F.entry_tuple_add (PySem.F.args_tuple_add_2 _ _)
      (tuple_addW1 t b vs.toArray ws.toArray n n2 dd dd2 sl sl2 (by simpa using hv) (by simp [hw])) ⟨ho,ho2,h1 hw⟩
  · refine concat_meets ⟨_,ho,rfl⟩ ⟨_,ho2,rfl⟩ noFill_tuple_add seq_tuple_add PySem.F.slot_tuple_add PySem.F.entry_tuple_add (PySem.F.args_tuple_add_2 _ _)
      (tuple_addW2 t b vs.toArray ws.toArray n n2 dd dd2 sl sl2 (by simpa using hv) (by simpa using hw) (by rw [Qj,Qj];exact hsz)) ⟨ho,ho2,?_⟩
    rw [e]
    exact h2 hw
def sIx(n d:Nat):Option Int→Nat
  | none=>d
  | some v=>if v < 0 then(v+(n:Int)).toNat else min v.toNat n
theorem sIx_nat(n d k:Nat):sIx n d (some (k:Int))=min k n:=by
  show(if (k:Int) < 0 then((k:Int)+(n:Int)).toNat else min (k:Int).toNat n)=min k n
  rw [if_neg (by lia),Int.toNat_natCast]
theorem HF(n d:Nat)(hd:d≤n)(o:Option Int):sIx n d o≤n:=by
  cases o with
  | none=>exact hd
  | some v=>
    show(if v < 0 then(v+(n:Int)).toNat else min v.toNat n)≤n
    by_cases hv:v < 0
    · rw [if_pos hv];lia
    · rw [if_neg hv];exact Nat.min_le_right _ _
theorem x8(v:Int)(n d:Nat):(if v < 0 then max (v+(n:Int)) 0 else min v (n:Int))=((sIx n d (some v):Nat):Int):=by
  show(if v < 0 then max (v+(n:Int)) 0 else min v (n:Int))=(((if v < 0 then(v+(n:Int)).toNat else min v.toNat n):Nat):Int)
  by_cases hv:v < 0
  · simp only [if_pos hv];lia
  · simp only [if_neg hv];lia
theorem wz(lo hi:Option Int)(n:Nat):Us lo hi 1 (n:Int)=(((sIx n 0 lo:Nat):Int),((sIx n n hi:Nat):Int)):=by
  have h1:¬((1:Int) < 0):=by lia
  unfold Us
  simp only [h1,if_false]
  refine Prod.ext ?_ ?_
  · cases lo with
    | none=>rfl
    | some v=>exact x8 v n 0
  · cases hi with
    | none=>rfl
    | some v=>exact x8 v n n
theorem xt(i j:Nat):TF (i:Int) (j:Int) 1=j - i:=by
  unfold TF
  have h1:(1:Int) > 0:=by lia
  simp only [h1,if_true,Int.ediv_one]
  split<;>lia
theorem qK{v:MG}{o:Option Int}{Q:Option Int→PB→Prop}(p:IsPart v o)(h:Q o s):PM (PQ prog w) A (Builtin.Slice.slicePartIndex v) Q E s:=by
  cases p with
  | none=>exact slicePart_none h
  | int i t=>exact slicePart_int h
theorem jm{sl:xM}{vl vu:MG}{lo hi:Option Int}{n:Nat}{Q:Int × Int × Nat→PB→Prop}(hs:s.heap.IsSliceOf sl vl vu .none)(pl:IsPart vl lo)(pu:IsPart vu hi)
    (h:Q (((sIx n 0 lo:Nat):Int),1,sIx n n hi - sIx n 0 lo) s):PM (PQ prog w) A (UL (.ref sl) (pure (n:Int))) Q E s:=by
  obtain⟨os,hos,hcs,hds⟩:=id hs
  unfold UL Builtin.Slice.sliceFields
  refine PR (PR (wpAny_field hos hds (x:=vl) rfl (PR (wpAny_field hos hds (x:=vu) rfl (PR (wpAny_field hos hds (x:=.none) rfl (Qa ?_)))))))
  refine PR (slicePart_none ?_)
  show PM _ _ (if ((1:Int)==0)=true then _ else _) _ _ s
  rw [if_neg (by decide)]
  refine PR (qK pl (PR (qK pu (PR (Qa ?_)))))
  show PM _ _ (match Us lo hi 1 (n:Int) with | (lo,hi)=>pure (lo,(1:Int),TF lo hi 1)) _ _ s
  rw [wz lo hi n]
  show PM _ _ (pure (((sIx n 0 lo:Nat):Int),(1:Int),TF ((sIx n 0 lo:Nat):Int) ((sIx n n hi:Nat):Int) 1)) _ _ s
  rw [xt]
  exact Qa h
theorem Bd(xs:Array MG)(i k:Nat):((QM k).filterMap fun(m:Nat)=>xs[((i:Int)+(m:Int)*1).toNat]?).toArray=((xs.toList.drop i).take k).toArray:=by
  have e:(fun(m:Nat)=>xs[((i:Int)+(m:Int)*1).toNat]?)=fun m=>xs[i+m]?:=by
    funext m
    have:((i:Int)+(m:Int)*1).toNat=i+m:=by lia
    rw [this]
  rw [e]
  have:=pick_run xs i k
  rw [List.filterMap_map] at this
  have e2:((fun x=>xs[x]?) ∘ fun x=>i+x)=fun m=>xs[i+m]?:=rfl
  rw [e2] at this
  rw [this]
theorem getItem_tuple_cut{t sl:xM}{items:Array MG}{vl vu:MG}{lo hi:Option Int}{Q:MG→PB→Prop}(ht:IsTup s.heap t items)(hs:s.heap.IsSliceOf sl vl vu .none)(pl:IsPart vl lo)(pu:IsPart vu hi)
    (hw:¬(sIx items.size 0 lo=0∧sIx items.size items.size hi=items.size))
    (h:Q (.ref s.heap.objs.size) {s with heap:=s.heap.push {cls:=.type "tuple",data:=.seq ((items.toList.drop (sIx items.size 0 lo)).take (sIx items.size items.size hi - sIx items.size 0 lo)).toArray}})
    (hsz:items.size≤PY):PM (PQ prog w) A (getItem (.ref t) (.ref sl)) Q E s:=by
  have htake:sizeOk (.seq ((items.toList.drop (sIx items.size 0 lo)).take (sIx items.size items.size hi - sIx items.size 0 lo)).toArray):=by
    show((items.toList.drop (sIx items.size 0 lo)).take (sIx items.size items.size hi - sIx items.size 0 lo)).toArray.size≤PY
    rw [Qj,List.length_take,List.length_drop,Ul]
    lia
  have hj:sIx items.size items.size hi≤items.size:=HF _ _ (Qc _) hi
  obtain⟨os,hos,hcs,hds⟩:=id hs
  have hTs:s.TypeIs (.ref sl) "slice":=⟨os,hos,hcs⟩
  unfold getItem
  try with_reducible refine Ry ?_
  first | refine PR (Qa ?_) | skip
  refine PR (wpAny_sequenceKey ht.typeIs (by decide) ?_)
  refine PR (wpAny_callSpecial?_slot (name:=Pz "__getitem__") ht.typeIs Ss
    (wpAny_call_entry Ss ht.typeIs entry_tuple_getitem ?_ (args_tuple_getitem _ _)))
  show PM _ _ (UM (.ref t) >>= _) _ _ s
  refine PR (tupleItemsOf_ ht ?_)
  refine PR (wpAny_typeOf hTs ?_)
  rw [if_pos (by decide)]
  refine PR (jm hs pl pu ?_)
  have hno:¬((((sIx items.size 0 lo:Nat):Int)==0&&(1:Int)==1&&(sIx items.size items.size hi - sIx items.size 0 lo)==items.size)=true):=by
    intro q
    rw [QD,QD] at q
    have q1:((sIx items.size 0 lo:Nat):Int)=0:=eq_of_beq q.1.1
    have q2:sIx items.size items.size hi - sIx items.size 0 lo=items.size:=eq_of_beq q.2
    exact hw ⟨by lia,by lia⟩
  show PM _ _ (if (((sIx items.size 0 lo:Nat):Int)==0&&(1:Int)==1&&(sIx items.size items.size hi - sIx items.size 0 lo)==items.size)=true then _ else _) _ _ s
  rw [if_neg hno,Bd]
  first
    | exact PR (m:=SQ _) (Sn (Qa ⟨_,rfl,Qa h⟩) htake)
    | exact PR (m:=SQ _) (Sn (PR (Qa (Qa ⟨_,rfl,Qa h⟩))) htake)
    | exact PR (PR (m:=SQ _) (Sn (Qa (Qa ⟨_,rfl,Qa h⟩)) htake))
    | exact PR (PR (m:=SQ _) (Sn (Qa ⟨_,rfl,Qa h⟩) htake))
end
end HT
namespace L2
open PySem PySem.Spec PyProof.Rows
abbrev TO:=St→Hp→(Option Int→Hp→Prop)→Prop
def PO(X:Cx)(e:Option PH)(t:TO):Prop:=
  ∀(pins:List (xM × Obj)) (s:PB) (σ:St) (H:Hp) (Q:Option Int→Hp→Prop),aN X pins σ H s→t σ H Q→
    PM (PQ X.prog X.w) X.A (evalPart e X.env) (fun u s'=>∃o H',aN X pins σ H' s'∧IsPart u o∧Q o H') X.xe s
def Eh:TO:=fun _ H Q=>Q none H
def J5(t:TE):TO:=fun σ H Q=>t σ H fun x H1=>∃i,x=.int i∧Q (some i) H1
theorem pV{ns:List Int}:∀{us:List MG},aV (ns.map V.int) us→RK us ns:=by
  induction ns with
  | nil=>intro us r;rw [Qv] at r;cases r;exact .nil
  | cons n ns ih=>
    intro us r
    rw [Qk] at r
    cases r with
    | cons r1 r2=>
      obtain⟨t,e⟩:=r1
      subst e
      exact .cons n t (ih r2)
section
variable{X:Cx}{e:PH}{te:TE}{lo hi:Option PH}{tl th:TO}{pos p2:Pos}
theorem DM:PO X none Eh:=by
  intro pins s σ H Q I h
  rw [evalPart_none]
  exact Qa ⟨none,H,I,.none,h⟩
theorem DN(h:PE X e te):PO X (some e) (J5 te):=by
  intro pins s σ H Q I hw
  rw [evalPart_some]
  refine cZ (h pins s σ H _ I hw) fun u s1 ⟨x,H1,I1,r1,q1⟩=>?_
  obtain⟨i,rfl,q⟩:=q1
  obtain⟨t,rfl⟩:=r1
  exact⟨some i,H1,I1,.int i t,q⟩
def Ci(X:Cx)(r:V→Option Int→Option Int→Hp→VK→Prop):Prop:=
  ∀(pins:List (xM × Obj)) (s:PB) (σ:St) (H:Hp) (x:V) (v vl vu:MG) (lo hi:Option Int) (sl:xM) (Q:VK),aN X pins σ H s→bN x v→s.heap.IsSliceOf sl vl vu .none→IsPart vl lo→IsPart vu hi→r x lo hi H Q→
    ∃T id,typeLookup (.type T) "__getitem__"=pure (some (.builtin id))∧s.TypeIs v T∧PM (PQ X.prog X.w) X.A (getItem v (.ref sl)) (EP X pins σ Q) X.xe s
theorem Ci.or{r r':V→Option Int→Option Int→Hp→VK→Prop}(h:Ci X r)(h':Ci X r'):Ci X (fun x lo hi H Q=>r x lo hi H Q∨r' x lo hi H Q):=by
  intro pins s σ H x v vl vu lo hi sl Q I rx hs pl pu q
  rcases q with q | q
  · exact h pins s σ H x v vl vu lo hi sl Q I rx hs pl pu q
  · exact h' pins s σ H x v vl vu lo hi sl Q I rx hs pl pu q
def Mx(r:V→Option Int→Option Int→Hp→VK→Prop)(te:TE)(tl th:TO):TE:=fun σ H Q=>te σ H fun x H1=>tl σ H1 fun l H2=>th σ H2 fun u H3=>r x l u H3 Q
theorem qh{r:V→Option Int→Option Int→Hp→VK→Prop}(hr:Ci X r)(he:PE X e te)(hl:PO X lo tl)(hu:PO X hi th):PE X (.Subscript e (.Slice lo hi none p2) pos) (Mx r te tl th):=by
  intro pins s σ H Q I h
  refine Subscript_ (cZ (he pins s σ H _ I h) fun v s1 ⟨x,H1,I1,r1,q1⟩=>?_)
  refine wpAny_Slice (cZ (hl pins s1 σ H1 _ I1 q1) fun vl s2 ⟨l,H2,I2,pl,q2⟩=>cZ (hu pins s2 σ H2 _ I2 q2) fun vu s3 ⟨u,H3,I3,pu,q3⟩=>?_)
  rw [evalPart_none]
  refine Qa ?_
  have I4:aN X pins σ H3 {s3 with heap:=s3.heap.push {cls:=.type "slice",data:=.fields #[vl,vu,.none]}}:=I3.kept (t':=s3.toks) fun b ob q=>Qs _ q
  obtain⟨T,id,hT,ht,hg⟩:=hr pins {s3 with heap:=s3.heap.push {cls:=.type "slice",data:=.fields #[vl,vu,.none]}} σ H3 x v vl vu l u s3.heap.objs.size Q I4 r1 (Heap.IsSliceOf.new ..) pl pu q3
  show PM (PQ X.prog X.w) X.A (subscriptTail e (.Slice lo hi none p2) v (.ref s3.heap.objs.size)) (EP X pins σ Q) X.xe {s3 with heap:=s3.heap.push {cls:=.type "slice",data:=.fields #[vl,vu,.none]}}
  exact tail_any (ops:=[.ref s3.heap.objs.size,v]) ht hT hg (by with_unfolding_all rfl)
def o5(xs:List V)(lo hi:Option Int):List V:=(xs.drop (HT.sIx xs.length 0 lo)).take (HT.sIx xs.length xs.length hi - HT.sIx xs.length 0 lo)
theorem ou(xs:List V)(lo hi:Option Int):(o5 xs lo hi).length≤xs.length:=by
  unfold o5
  rw [List.length_take,List.length_drop]
  lia
def JK(K:PF):V→Option Int→Option Int→Hp→VK→Prop:=fun x lo hi H Q=>∃a xs,x=.ref a∧fB K H a xs∧
  ¬(HT.sIx xs.length 0 lo=0∧HT.sIx xs.length xs.length hi=xs.length)∧∀p,H p=none→Q (.ref p) (cy H p (.tup (o5 xs lo hi)))
theorem HG:Ci X (JK X.K):=by
  intro pins s σ H x v vl vu lo hi sl Q I rx hs pl pu h
  obtain⟨a,xs,rfl,hx,hw,q⟩:=h
  cases rx
  obtain⟨its,r,ht,hz⟩:=I.tuple hx
  have hlen:its.toArray.size=xs.length:=by rw [Qj];exact r.length.symm
  refine⟨"tuple",_,Ss.lookup,ht.typeIs,?_⟩
  refine HT.getItem_tuple_cut ht hs pl pu (by rw [hlen];exact hw) ?_ (by rw [hlen];exact hz)
  rw [hlen]
  refine⟨.ref s.heap.objs.size,_,I.laid (t':=s.toks) (o:=.tup (o5 xs lo hi)) (fun b ob q=>Qs _ q) (Qc _) ?_,rfl,q _ (I.hok.fresh (Qc _))⟩
  exact⟨Qq (ou xs lo hi) hz,_,(r.drop (HT.sIx xs.length 0 lo)).take (HT.sIx xs.length xs.length hi - HT.sIx xs.length 0 lo),sW.new _ _⟩
def JC(K:PF):R2:=fun x y H Q=>∃a b xs ys,x=.ref a∧y=.ref b∧fB K H a xs∧fB K H b ys∧xs≠[]∧xs.length+ys.length≤PY∧
  (ys=[]→Q (.ref a) H)∧(ys≠[]→∀p,H p=none→Q (.ref p) (cy H p (.tup (xs++ys))))
theorem aV.nil_iff{xs:List V}{us:List MG}(r:aV xs us):us=[]↔ xs=[]:=by
  cases r with
  | nil=>simp
  | cons _ _=>simp
theorem Dp:iH X (Qt .Add) (JC X.K):=by
  intro pins s σ H x y v u Q I rx ry h
  obtain⟨a,b,xs,ys,rfl,rfl,ha,hb,hx,hz,q1,q2⟩:=h
  cases rx
  cases ry
  obtain⟨its,r1,p1,_⟩:=I.tuple ha
  obtain⟨its2,r2,p2,_⟩:=I.tuple hb
  refine HT.cat_tup p1 p2 (fun z=>hx (r1.nil_iff.mp z)) (fun z=>⟨.ref a,H,I,rfl,q1 (r2.nil_iff.mp z)⟩) (fun z=>?_) (by rw [←r1.length,←r2.length];exact hz)
  refine⟨.ref s.heap.objs.size,_,I.laid (t':=s.toks) (o:=.tup (xs++ys)) (fun b ob q=>Qs _ q) (Qc _) ?_,rfl,q2 (fun w=>z (r2.nil_iff.mpr w)) _ (I.hok.fresh (Qc _))⟩
  exact⟨by rw [Se];exact hz,_,r1.append r2,sW.new _ _⟩
end
def zi(n:Nat)(i:Int):Option Nat:=if 0≤i then(if i < n then some i.toNat else none) else if -(n:Int)≤i then some (i+n).toNat else none
def atI{α:Type}(xs:List α)(i:Int):Option α:=(zi xs.length i).bind fun j=>xs[j]?
theorem yi{n:Nat}{i:Int}{j:Nat}(h:zi n i=some j):seqIndex? i n=some j∧j < n∧ -(n:Int)≤i∧i < n:=by
  unfold zi at h
  by_cases h0:0≤i
  · rw [if_pos h0] at h
    by_cases h1:i < n
    · rw [if_pos h1] at h
      have e:i.toNat=j:=QO h
      exact⟨by rw [seqIndex_of h0 h1,e],by lia,by lia,h1⟩
    · rw [if_neg h1] at h;cases h
  · rw [if_neg h0] at h
    by_cases h1: -(n:Int)≤i
    · rw [if_pos h1] at h
      have e:(i+n).toNat=j:=QO h
      exact⟨by rw [seqIndex_neg (by lia) h1,e],by lia,h1,by lia⟩
    · rw [if_neg h1] at h;cases h
theorem sZ{α:Type}{xs:List α}{i:Int}{v:α}(h:atI xs i=some v):∃j,seqIndex? i xs.length=some j∧xs[j]?=some v∧j < xs.length∧ -(xs.length:Int)≤i∧i < xs.length:=by
  unfold atI at h
  cases e:zi xs.length i with
  | none=>rw [e] at h;cases h
  | some j=>
    rw [e] at h
    obtain⟨h1,h2,h3,h4⟩:=yi e
    exact⟨j,h1,h,h2,h3,h4⟩
def l7(b:PH):Prop:=∀o i,subscripted b false o i=operate [o,i] (getItem o i)
def Cf(X:Cx)(r:R2):Prop:=
  ∀(value slice:PH) (pins:List (xM × Obj)) (s:PB) (σ:St) (H:Hp) (x y:V) (v u:MG) (Q:VK),aN X pins σ H s→bN x v→bN y u→r x y H Q→
    subscripted slice false v u=operate [v,u] (getItem v u)→PM (PQ X.prog X.w) X.A (subscriptTail value slice v u) (EP X pins σ Q) X.xe s
def Ib(X:Cx)(id:String)(r:V→List V→Hp→VK→Prop):Prop:=
  ∀(pins:List (xM × Obj)) (s:PB) (σ:St) (H:Hp) (x:V) (xs:List V) (v:MG) (us:List MG) (Q:VK),aN X pins σ H s→bN x v→aV xs us→r x xs H Q→
    PM (PQ X.prog X.w) X.A (call (.builtin id) (v::us)) (EP X pins σ Q) X.xe s
section
variable{X:Cx}{a b:PH}{ta tb:TE}{pos:Pos}
theorem Cf.or{r r':R2}(h:Cf X r)(h':Cf X r'):Cf X (fun x y H Q=>r x y H Q∨r' x y H Q):=by
  intro value slice pins s σ H x y v u Q I rx ry q hs
  rcases q with q | q
  · exact h value slice pins s σ H x y v u Q I rx ry q hs
  · exact h' value slice pins s σ H x y v u Q I rx ry q hs
theorem EV{r:R2}(hr:Cf X r)(ha:PE X a ta)(hb:PE X b tb)(hs:l7 b):PE X (.Subscript a b pos) (Il r ta tb):=by
  intro pins s σ H Q I h
  exact Subscript_ (FB ha hb I h fun v u s2 x y H2 I2 rx ry q=>hr a b pins s2 σ H2 x y v u Q I2 rx ry q (hs _ _))
def JF(K:PF):R2:=fun x y H Q=>∃p xs i v,x=.ref p∧y=.int i∧iJ K H p xs∧atI xs i=some v∧Q v H
def JH(K:PF):R2:=fun x y H Q=>∃p xs i v,x=.ref p∧y=.int i∧fB K H p xs∧atI xs i=some v∧Q v H
def JG:R2:=fun x y H Q=>∃z i c,x=.str z∧y=.int i∧z.length≤PY∧atI z.cps.toList i=some c∧Q (.str ⟨#[c]⟩) H
theorem CS:Cf X (JF X.K):=by
  intro value slice pins s σ H x y v u Q I rx ry h hs
  obtain⟨p,xs,i,z,rfl,rfl,hq,he,q⟩:=h
  cases rx
  obtain⟨t,rfl⟩:=ry
  obtain⟨its,r,pl,hz⟩:=I.list hq
  obtain⟨j,h1,h2,h3,h4,h5⟩:=sZ he
  obtain⟨w,ew,rw'⟩:=r.get h2
  have hl:=r.length
  have hn:=p4
  have fin:EP X pins σ Q w s:=⟨z,H,I,rw',q⟩
  by_cases h0:0≤i
  · have hj:i.toNat=j:=by
      rw [seqIndex_of h0 h5] at h1
      exact QO h1
    exact item_listR pl.isList h0 (by lia) (by rw [hj];simpa using ew) fin hs
  · have hj:(i+(its.toArray.size:Int)).toNat=j:=by
      rw [seqIndex_neg (by lia) h4] at h1
      rw [Qj,←hl]
      exact QO h1
    exact subscriptTail_builtinR (x:=w) pl.isList.typeIs slot_list_getitem.lookup
      (wpAny_getItem_list_neg (Q:=fun r s'=>r=w∧EP X pins σ Q r s') pl.isList (by lia) (by rw [Qj]<;>lia) (by lia) (by rw [hj];simpa using ew) ⟨rfl,fin⟩) hs
theorem FZ:Cf X (JH X.K):=by
  intro value slice pins s σ H x y v u Q I rx ry h hs
  obtain⟨p,xs,i,z,rfl,rfl,hq,he,q⟩:=h
  cases rx
  obtain⟨t,rfl⟩:=ry
  obtain⟨its,r,pl,hz⟩:=I.tuple hq
  obtain⟨j,h1,h2,h3,h4,h5⟩:=sZ he
  obtain⟨w,ew,rw'⟩:=r.get h2
  have hl:=r.length
  have hn:=p4
  have fin:EP X pins σ Q w s:=⟨z,H,I,rw',q⟩
  exact subscriptTail_builtinR (x:=w) pl.typeIs Ss.lookup
    (getItem_tuple (j:=j) (Q:=fun r s'=>r=w∧EP X pins σ Q r s') pl (by lia) (by lia) (by rw [Qj,←hl];exact h1) (by simpa using ew) ⟨rfl,fin⟩) hs
theorem FY:Cf X JG:=by
  intro value slice pins s σ H x y v u Q I rx ry h hs
  obtain⟨z,i,c,rfl,rfl,hz,he,q⟩:=h
  obtain⟨t,rfl⟩:=rx
  obtain⟨t',rfl⟩:=ry
  obtain⟨j,h1,h2,h3,h4,h5⟩:=sZ he
  have hl:z.cps.toList.length=z.length:=by simp [Str.length]
  rw [hl] at h1 h4 h5
  have hn:=p4
  exact tail_any (SR s z t) slot_str_getitem.lookup (getItem_str (c:=c) (by
    have e1:decide (i < -(2 ^ 63:Int))=false:=decide_eq_false (by lia)
    have e2:decide (i≥2 ^ 63)=false:=decide_eq_false (by lia)
    rw [e1,e2,TH]) (by rw [h1];simpa using h2) ⟨.str ⟨#[c]⟩,H,I.tok _,⟨_,rfl⟩,q⟩) hs
theorem xh(its:List MG)(n j:Nat)(u:MG):RL (·.setIfInBounds j u) {cls:=.type "list",data:=.seq its.toArray n}={cls:=.type "list",data:=.seq (its.set j u).toArray n}:=by
  simp [RL]
theorem aN.lst{pins:List (xM × Obj)}{σ:St}{H:Hp}{s:PB}{p:xM}{xs:List V}(I:aN X pins σ H s)(h:H p=some (.lst xs)):
    ∃(its:List MG) (n:Nat),aV xs its∧s.heap.get? p=some {cls:=.type "list",data:=.seq its.toArray n}∧xs.length≤PY:=by
  obtain⟨z,its,n,r,e⟩:=I.hok p _ h
  exact⟨its,n,r,e,z⟩
theorem aN.lstUpd{pins:List (xM × Obj)}{σ:St}{H:Hp}{s:PB}{p:xM}{xs ys:List V}{its its':List MG}{n n':Nat}{f:Obj→Obj}(I:aN X pins σ H s)(h:H p=some (.lst xs))
    (ho:s.heap.get? p=some {cls:=.type "list",data:=.seq its.toArray n})(hf:f {cls:=.type "list",data:=.seq its.toArray n}={cls:=.type "list",data:=.seq its'.toArray n'})(r:aV ys its')(hz:ys.length≤PY)(t:Nat):
    aN X pins σ (cy H p (.lst ys)) {s with heap:=s.heap.update p f,toks:=t}:=by
  have e:(s.heap.update p f).get? p=some {cls:=.type "list",data:=.seq its'.toArray n'}:=by
    rw [Heap.get?_update_self f ho (by rw [hf]<;>rfl),hf]
  refine I.write (x:=p) (e:=p) (by rw [h];trivial) (.inl rfl) (fun b u hb q=>(Heap.get?_update_other _ _ (QN hb)).trans q) ⟨_,e⟩ ?_
  exact⟨hz,its',n',r,e⟩
def JI:V→V→V→Hp→(Hp→Prop)→Prop:=fun o i v H Q=>∃p xs k j,o=.ref p∧i=.int k∧H p=some (.lst xs)∧zi xs.length k=some j∧Q (cy H p (.lst (xs.set j v)))
theorem BX:Io X JI:=by
  intro pins s σ H o i v ov iv u Q I ro ri rv h
  obtain⟨p,xs,k,j,rfl,rfl,hp,hj,q⟩:=h
  cases ro
  obtain⟨t,rfl⟩:=ri
  obtain⟨its,n,r,ho,hz⟩:=I.lst hp
  obtain⟨h1,h2,h3,h4⟩:=yi hj
  have hl:=r.length
  have hn:=p4
  have I':aN X pins σ (cy H p (.lst (xs.set j v))) {s with heap:=s.heap.update p (RL (·.setIfInBounds j u))}:=
    I.lstUpd hp ho (xh its n j u) (r.set rv j) (by rw [Sf];exact hz) s.toks
  by_cases h0:0≤k
  · have hk:k.toNat=j:=by
      rw [seqIndex_of h0 h4] at h1
      exact QO h1
    exact PySem.W.ki_setAt ho h0 (by lia) (by rw [Qj,←hl];exact h4) (by rw [hk];exact⟨_,I',q⟩)
  · have hk:(k+(its.toArray.size:Int)).toNat=j:=by
      rw [seqIndex_neg (by lia) h3] at h1
      rw [Qj,←hl]
      exact QO h1
    exact PySem.W.ki_setBack ho (by lia) (by rw [Qj,←hl];exact h3) (by lia) (by rw [hk];exact⟨_,I',q⟩)
theorem ut(lo hi:Option Int)(n:Nat):(Su lo hi none n).1=((HT.sIx n 0 lo:Nat):Int)∧(Su lo hi none n).2.1=((HT.sIx n n hi:Nat):Int)∧(Su lo hi none n).2.2=1:=by
  refine⟨?_,?_,rfl⟩
  · cases lo with
    | none=>simp [Su,HT.sIx]
    | some i=>
      simp only [Su,HT.sIx,Option.getD_none,show(1:Int) > 0 by decide,if_true]
      by_cases h:i < 0
      · simp only [h,if_true]<;>lia
      · simp only [h,if_false]<;>lia
  · cases hi with
    | none=>simp [Su,HT.sIx]
    | some i=>
      simp only [Su,HT.sIx,Option.getD_none,show(1:Int) > 0 by decide,if_true]
      by_cases h:i < 0
      · simp only [h,if_true]<;>lia
      · simp only [h,if_false]<;>lia
theorem rm(its:List MG)(lo hi:Option Int):slicePick its.toArray lo hi none=((its.drop (HT.sIx its.length 0 lo)).take (HT.sIx its.length its.length hi - HT.sIx its.length 0 lo)).toArray:=by
  obtain⟨h1,h2,h3⟩:=ut lo hi its.toArray.size
  unfold slicePick
  rw [h1,h2,h3]
  simp only [sliceRange_one,pick_run,Qj]<;>rfl
def JJ(K:PF):V→Option Int→Option Int→Hp→VK→Prop:=fun x lo hi H Q=>∃a xs,x=.ref a∧iJ K H a xs∧∀p,H p=none→Q (.ref p) (cy H p (.lst (o5 xs lo hi)))
theorem D':Ci X (JJ X.K):=by
  intro pins s σ H x v vl vu lo hi sl Q I rx hs pl pu h
  obtain⟨a,xs,rfl,hx,q⟩:=h
  cases rx
  obtain⟨its,r,ht,hz⟩:=I.list hx
  have hlen:=r.length
  refine⟨"list",_,slot_list_getitem.lookup,ht.isList.typeIs,?_⟩
  refine wpAny_getItem_list_slice ht.isList hs pl pu .none (by simp) ?_ (by rw [Qj]<;>lia)
  rw [rm,←hlen]
  refine⟨.ref s.heap.objs.size,_,I.laid (t':=s.toks) (o:=.lst (o5 xs lo hi)) (fun b ob q=>Qs _ q) (Qc _) ?_,rfl,q _ (I.hok.fresh (Qc _))⟩
  exact⟨Qq (ou xs lo hi) hz,_,0,(r.drop (HT.sIx xs.length 0 lo)).take (HT.sIx xs.length xs.length hi - HT.sIx xs.length 0 lo),QL _ rfl⟩
theorem tG:dX X (.builtin "len") (fun xs H Q=>∃p ys,xs=[.ref p]∧(iJ X.K H p ys∨fB X.K H p ys)∧Q (.int ys.length) H):=by
  intro pins s σ H xs us Q I r h
  obtain⟨p,ys,rfl,hq,q⟩:=h
  obtain⟨u,rfl,rx⟩:=sV r
  cases rx
  have hn:=p4
  rcases hq with hq | hq
  · obtain⟨its,r',pl,hz⟩:=I.list hq
    have hlen:=r'.length
    exact Calls.call_len_list pl.isList (by simp only [Qj]<;>lia) ⟨.int ys.length,H,I.tok _,⟨s.toks+1,by rw [Qj,hlen]⟩,q⟩
  · obtain⟨its,r',pl,hz⟩:=I.tuple hq
    have hlen:=r'.length
    exact len_tuple pl (by simp only [Qj]<;>lia) ⟨.int ys.length,H,I.tok _,⟨s.toks+1,by rw [Qj,hlen]⟩,q⟩
theorem tH:dX X (.type "list") (fun xs H Q=>∃p ys,xs=[.ref p]∧(iJ X.K H p ys∨fB X.K H p ys)∧∀l,H l=none→Q (.ref l) (cy H l (.lst ys))):=by
  intro pins s σ H xs us Q I r h
  obtain⟨p,ys,rfl,hq,q⟩:=h
  obtain⟨u,rfl,rx⟩:=sV r
  cases rx
  have fin:∀(its:List MG),aV ys its→ys.length≤PY→∀(h':PL) (c':Nat),(∀b o',s.heap.get? b=some o'→h'.get? b=some o')→
      h'.get? s.heap.objs.size=some {cls:=.type "list",dict:=none,data:=.seq its.toArray c',slots:=#[]}→EP X pins σ Q (.ref s.heap.objs.size) {s with heap:=h'}:=fun its r' hz h' c' kp e=>
    ⟨.ref s.heap.objs.size,_,I.laid (t':=s.toks) kp (Qc _) (show gO X.prog X.w _ h' _ (.lst ys) from⟨hz,its,c',r',e⟩),rfl,q _ (I.hok.fresh (Qc _))⟩
  rcases hq with hq | hq
  · obtain⟨its,r',pl,hz⟩:=I.list hq
    have hlen:=r'.length
    obtain⟨o,ho,hc,n,hd⟩:=pl.isList
    exact call_list_seq p (.inl rfl) ho hc hd (fun h' c' kp e=>fin its r' hz h' c' kp e) (by simp only [Qj]<;>lia)
  · obtain⟨its,r',pl,hz⟩:=I.tuple hq
    have hlen:=r'.length
    obtain⟨o,ho,hc,n,hd⟩:=pl
    exact call_list_seq p (.inr rfl) ho hc hd (fun h' c' kp e=>fin its r' hz h' c' kp e) (by simp only [Qj]<;>lia)
theorem qZ:dX X (.type "tuple") (fun xs H Q=>∃p ys,xs=[.ref p]∧((iJ X.K H p ys∧∀l,H l=none→Q (.ref l) (cy H l (.tup ys)))∨(fB X.K H p ys∧Q (.ref p) H))):=by
  intro pins s σ H xs us Q I r h
  obtain⟨p,ys,rfl,h⟩:=h
  obtain⟨u,rfl,rx⟩:=sV r
  cases rx
  rcases h with ⟨hq,q⟩ | ⟨hq,q⟩
  · obtain⟨its,r',pl,hz⟩:=I.list hq
    have hlen:=r'.length
    refine call_tuple_list pl.isList (fun h' kp=>?_) (by simp only [Qj]<;>lia)
    have I1:aN X pins σ H {s with heap:=h'}:=I.kept (t':=s.toks) kp
    have I2:aN X pins σ (cy H h'.objs.size (.tup ys)) {s with heap:=h'.push {cls:=.type "tuple",data:=.seq its.toArray}}:=
      I1.laid (t':=s.toks) (fun b o e=>Qs _ e) (Qc _) (show gO X.prog X.w _ _ _ (.tup ys) from⟨hz,its,r',sW.new _ _⟩)
    exact⟨.ref h'.objs.size,_,I2,rfl,q _ (I1.hok.fresh (Qc _))⟩
  · obtain⟨its,r',pl,hz⟩:=I.tuple hq
    exact call_tuple_same pl ⟨.ref p,H,I,rfl,q⟩
def Lz(K:PF)(T:String)(x:V)(H:Hp):Prop:=match x with
  | .str _=>T="str"
  | .int _=>T="int"
  | .ref p=>(T="list"∧∃xs,iJ K H p xs)∨(T="tuple"∧∃o,K.lookup p=some o∧o.cls=.type "tuple"∧o.dict=none)∨
      (T="dict"∧((∃kvs,H p=some (.dK kvs))∨∃kvs,H p=some (.dT kvs)))∨(T="set"∧∃S n,H p=some (.set S n))
  | _=>False
theorem B8{pins:List (xM × Obj)}{σ:St}{H:Hp}{s:PB}{T:String}{x:V}{v:MG}(I:aN X pins σ H s)(r:bN x v)(ty:Lz X.K T x H):
    s.TypeIs v T∧∀a,v=.ref a→∃ob,s.heap.get? a=some ob∧ob.dict=none:=by
  cases x with
  | str z=>
    obtain⟨t,rfl⟩:=r
    cases (show T="str" from ty)
    exact⟨SR s z t,fun _ e=>nomatch e⟩
  | int i=>
    obtain⟨t,rfl⟩:=r
    cases (show T="int" from ty)
    exact⟨Tf s i t,fun _ e=>nomatch e⟩
  | ref p=>
    cases r
    rcases ty with ⟨rfl,xs,hq⟩ | ⟨rfl,o,hk,hc,hd⟩ | ⟨rfl,hk⟩ | ⟨rfl,S,n,hk⟩
    · obtain⟨its,_,pl,_⟩:=I.list hq
      refine⟨pl.isList.typeIs,fun a e=>?_⟩
      cases e
      obtain⟨o,n,e,c,hd,_⟩:=pl
      exact⟨o,e,hd⟩
    · refine⟨⟨o,I.kIn p o hk,hc⟩,fun a e=>?_⟩
      cases e
      exact⟨o,I.kIn _ o hk,hd⟩
    · have z:∃o,s.heap.get? p=some o∧o.ExactDict:=by
        rcases hk with ⟨kvs,hk⟩ | ⟨kvs,hk⟩
        · obtain⟨_,_,_,_,o,_,_,e,ex,_⟩:=I.hok p _ hk
          exact⟨o,e,ex⟩
        · obtain⟨_,_,_,_,o,_,_,e,ex,_⟩:=I.hok p _ hk
          exact⟨o,e,ex⟩
      obtain⟨o,e,ex⟩:=z
      refine⟨⟨o,e,ex.1⟩,fun a e2=>?_⟩
      cases e2
      exact⟨o,e,ex.2.1⟩
    · obtain⟨o,_,_,_,e,ex,_⟩:=I.hok p _ hk
      refine⟨⟨o,e,ex.1⟩,fun a e2=>?_⟩
      cases e2
      exact⟨o,e,ex.2.1⟩
  | _=>exact Rf ty
def Lm(K:PF)(T:String)(r:V→List V→Hp→VK→Prop)(to:TE):TE:=fun σ H Q=>to σ H fun x H1=>Lz K T x H1∧r x [] H1 Q
def LW(K:PF)(T:String)(r:V→List V→Hp→VK→Prop)(to:TE)(t:TA):TE:=fun σ H Q=>to σ H fun x H1=>Lz K T x H1∧t σ H1 fun xs H2=>r x xs H2 Q
variable{o e:PH}{es:List PH}{to:TE}{t:TA}{name:Str}{apos cpos:Pos}{T id:String}{r:V→List V→Hp→VK→Prop}
theorem G4(pa:PlainAttrs T)(slot:Slot T name id)(hty:typeOf (.builtin id)=pure (.type "method_descriptor"))(hm:Ib X id r)(ho:PE X o to)
    (hbase:Rw o name X.env (PV o X.env)=PV o X.env:=by rfl)(hline:(apos.endLine==cpos.line)=true:=by rfl):PE X (.Call (.Attribute o name apos) [] [] cpos) (Lm X.K T r to):=by
  intro pins s σ H Q I h
  refine wpAny_Call_method0_late hbase hline (cZ (ho pins s σ H _ I h) fun v s1 ⟨x,H1,I1,r1,ty,q1⟩=>?_)
  obtain⟨h1,h2⟩:=B8 I1 r1 ty
  exact⟨T,id,pa,slot,hty,h1,h2,Calls.callWith_builtin rfl (PySem.evalArgs_none (hm pins s1 σ H1 x [] v [] Q I1 r1 .nil q1))⟩
theorem A8(pa:PlainAttrs T)(slot:Slot T name id)(hty:typeOf (.builtin id)=pure (.type "method_descriptor"))(hm:Ib X id r)(ho:PE X o to)(ha:PA X (e::es) t)
    (hbase:Rw o name X.env (PV o X.env)=PV o X.env:=by rfl)
    (hfew:((Qf cpos (PU (e::es) X.env)).all (fun x=> !x.1)&&(Rz cpos (RB [] X.env)).all (fun x=>x.1.isSome)
      &&decide ((e::es).length+([]:List QQ).length+(if ([]:List QQ).isEmpty then 0 else 1) < 30))=true:=by rfl)
    (hline:(apos.endLine==cpos.line)=true:=by rfl)(hs:PU (e::es) X.env=(false,PV e X.env)::PU es X.env:=by rfl)(hplain:(Qf cpos (PU es X.env)).any (·.1)=false:=by rfl):
    PE X (.Call (.Attribute o name apos) (e::es) [] cpos) (LW X.K T r to t):=by
  intro pins s σ H Q I h
  refine wpAny_Call_method_late hbase hfew hline rfl (cZ (ho pins s σ H _ I h) fun v s1 ⟨x,H1,I1,r1,ty,q1⟩=>?_)
  obtain⟨h1,h2⟩:=B8 I1 r1 ty
  refine⟨T,id,pa,slot,hty,h1,h2,?_⟩
  have hA:=ha cpos pins s1 σ H1 _ I1 q1
  rw [hs] at hA ⊢
  refine Calls.callWith_builtin (by show(false || (Qf cpos (PU es X.env)).any (·.1))=false;rw [hplain]<;>rfl) (Calls.evalArgs_plain ?_)
  exact cZ hA fun us s2 ⟨vs,H2,I2,r2,q2⟩=>hm pins s2 σ H2 x vs v us Q I2 r1 r2 q2
end
def LI(X:Cx)(id:String)(r:V→List V→Hp→VK→Prop):Prop:=
  ∀(pins:List (xM × Obj)) (s:PB) (σ:St) (H:Hp) (x:V) (xs:List V) (v:MG) (us:List MG) (Q:VK),aN X pins σ H s→bN x v→aV xs us→r x xs H Q→
    PM (PQ X.prog X.w) X.A (call (.builtin id) (v::us)) (EP X pins σ Q) X.xe s
theorem aV.one:∀{x:V} {us:List MG},aV [x] us→∃u,us=[u]∧bN x u
  | _,_,.cons r .nil=>⟨_,rfl,r⟩
theorem aV.zero:∀{us:List MG},aV [] us→us=[]
  | _,.nil=>rfl
theorem aV.eraseIdx:∀{xs:List V} {us:List MG} (i:Nat),aV xs us→aV (xs.eraseIdx i) (us.eraseIdx i)
  | _,_,_,.nil=>.nil
  | _,_,0,.cons _ t=>t
  | _,_,i+1,.cons r t=>.cons r (aV.eraseIdx i t)
theorem aV.rep{xs:List V}{us:List MG}(h:aV xs us):∀k:Nat,aV (PX k xs).flatten (PX k us).flatten
  | 0=>.nil
  | k+1=>by
    rw [Sg,Sg,TJ,TJ]
    exact aV.append h (aV.rep h k)
theorem r8{α:Type}:∀(l:List α) (i:Nat),(l.eraseIdx i).length≤l.length
  | [],_=>Qc _
  | _::_,0=>Nat.le_succ _
  | _::r,i+1=>Nat.succ_le_succ (r8 r i)
theorem rS(its:List MG):∀(k:Nat) (acc:List MG),
    SU (fun x1 x2=>x1++x2) acc.toArray (PX k its.toArray)=(acc++(PX k its).flatten).toArray
  | 0,acc=>by simp
  | k+1,acc=>by
    have e:acc.toArray++its.toArray=(acc++its).toArray:=by simp
    have e2:(acc++its)++(PX k its).flatten=acc++(PX (k+1) its).flatten:=by
      rw [Sg,TJ,List.append_assoc]
    rw [←e2,←rS its k (acc++its),←e,Sg,List.foldl_cons]
section
variable{X:Cx}{pins:List (xM × Obj)}{σ:St}{H:Hp}{s:PB}{l b:xM}{xs ys zs:List V}
theorem aN.lset{its its':List MG}{n:Nat}{f:Array MG→Array MG}{t':Nat}(I:aN X pins σ H s)(hH:H l=some (.lst xs))
    (e:s.heap.get? l=some {cls:=.type "list",data:=.seq its.toArray n})(hf:f its.toArray=its'.toArray)(hv:aV ys its')(hz:ys.length≤PY):
    aN X pins σ (cy H l (.lst ys)) {s with heap:=s.heap.update l (RL f),toks:=t'}:=by
  have q:=PySem.IsL.update e f
  rw [hf] at q
  refine I.write (x:=l) (e:=l) (by rw [hH];exact trivial) (.inl rfl) (fun b' u hb hu=>(Heap.get?_update_other s.heap (RL f) (QN hb)).trans hu) ⟨_,q⟩ ?_
  exact⟨hz,its',_,hv,q⟩
theorem aN.lnew{its:List MG}{t':Nat}(I:aN X pins σ H s)(hv:aV ys its)(hz:ys.length≤PY):
    aN X pins σ (cy H s.heap.objs.size (.lst ys)) {s with heap:=s.heap.push {cls:=.type "list",data:=.seq its.toArray},toks:=t'}:=
  I.laid (fun _ _ q=>Qs _ q) (Qc _) ⟨hz,its,0,hv,QL _ rfl⟩
theorem aN.fresh(I:aN X pins σ H s):H s.heap.objs.size=none:=I.hok.fresh (Qc _)
theorem aN.lstM(I:aN X pins σ H s)(hH:H l=some (.lst xs)):xs.length≤PY∧∃(its:List MG) (n:Nat),aV xs its∧xs.length=its.length∧s.heap.get? l=some {cls:=.type "list",data:=.seq its.toArray n}:=by
  obtain⟨z,its,n,r,e⟩:=I.hok l _ hH
  exact⟨z,its,n,r,r.length,e⟩
theorem AR{n:Nat}(h:n≤PY):Ut n=false:=by
  unfold Ut
  exact decide_eq_false (by lia)
end
section
variable{X:Cx}
def yA:V→List V→Hp→VK→Prop:=fun x vs H Q=>∃l xs y,x=.ref l∧vs=[y]∧H l=some (.lst xs)∧xs.length < PY∧Q .non (cy H l (.lst (xs++[y])))
theorem sj:LI X "list.append" yA:=by
  intro pins s σ H x vs v us Q I rx rv h
  obtain⟨l,xs,y,rfl,rfl,hH,hz,q⟩:=h
  cases rx
  obtain⟨u,rfl,ru⟩:=rv.one
  obtain⟨z,its,n,r,hl,e⟩:=I.lstM hH
  refine RD F.slot_list_append ⟨_,e,rfl⟩ F.entry_list_append (F.args_list_append_2 _ _) (PySem.list_append l its.toArray n u (by rw [Qj];lia)) ⟨e,?_⟩
  refine⟨.non,_,I.lset (its':=its++[u]) hH e (by simp) (r.append (.cons ru .nil)) ?_,rfl,q⟩
  rw [Se,Uu]
  lia
def BA:V→List V→Hp→VK→Prop:=fun x vs H Q=>∃l xs i k y,x=.ref l∧vs=[.int i]∧H l=some (.lst xs)∧ -(2 ^ 63)≤i∧i < 2 ^ 63∧seqIndex? i xs.length=some k∧xs[k]?=some y∧Q y (cy H l (.lst (xs.eraseIdx k)))
theorem AF:LI X "list.pop" BA:=by
  intro pins s σ H x vs v us Q I rx rv h
  obtain⟨l,xs,i,k,y,rfl,rfl,hH,h1,h2,hk,hy,q⟩:=h
  cases rx
  obtain⟨u,rfl,ru⟩:=rv.one
  obtain⟨t,rfl⟩:=ru
  obtain⟨z,its,n,r,hl,e⟩:=I.lstM hH
  obtain⟨w,hw,rw'⟩:=r.get hy
  refine RD F.slot_list_pop ⟨_,e,rfl⟩ F.entry_list_pop (F.args_list_pop_2 _ _)
    (MeetsSeq.list_pop_at l its.toArray n i t k w (fitsIndex_both h1 h2) (by rw [Qj,←hl];exact hk) (by rw [←Array.getElem?_toList];exact hw) (by rw [Qj];lia)) ⟨e,?_⟩
  refine⟨y,_,I.lset (its':=its.eraseIdx k) hH e ?_ (r.eraseIdx k) ?_,rw',q⟩
  · show its.toArray.eraseIdxIfInBounds k=(its.eraseIdx k).toArray
    rw [List.eraseIdxIfInBounds_toArray]
  · have:=r8 xs k
    lia
def Hw:R2:=fun x y H Q=>∃l b xs zs,x=.ref l∧y=.ref b∧H l=some (.lst xs)∧H b=some (.lst zs)∧xs.length+zs.length≤PY∧∀p,H p=none→Q (.ref p) (cy H p (.lst (xs++zs)))
theorem GS:iH X (Qt .Add) Hw:=by
  intro pins s σ H x y v u Q I rx ry h
  obtain⟨l,b,xs,zs,rfl,rfl,hH,hB,hz,q⟩:=h
  cases rx
  cases ry
  obtain⟨z,its,n,r,hl,e⟩:=I.lstM hH
  obtain⟨z2,its2,n2,r2,hl2,e2⟩:=I.lstM hB
  refine PySem.P.add_list e e2 ?_ (by rw [Qj,Qj];lia)
  have ea:its.toArray++its2.toArray=(its++its2).toArray:=by simp
  rw [ea]
  exact⟨.ref _,_,I.lnew (t':=s.toks) (r.append r2) (by rw [Se];lia),rfl,q _ I.fresh⟩
def HA:R2:=fun x y H Q=>∃l k xs,x=.ref l∧y=.int k∧H l=some (.lst xs)∧ -(2 ^ 63)≤k∧k < 2 ^ 63∧xs.length*k.toNat≤PY∧
  ∀p,H p=none→Q (.ref p) (cy H p (.lst (PX k.toNat xs).flatten))
theorem C2{α:Type}(xs:List α)(k:Nat):(PX k xs).flatten.length=k*xs.length:=by
  induction k with
  | zero=>simp
  | succ k ih=>rw [Sg,TJ,Se,ih,Nat.succ_mul,Nat.add_comm]
theorem G1:iH X (Qt .Mult) HA:=by
  intro pins s σ H x y v u Q I rx ry h
  obtain⟨l,k,xs,rfl,rfl,hH,h1,h2,hz,q⟩:=h
  cases rx
  obtain⟨t,rfl⟩:=ry
  obtain⟨z,its,n,r,hl,e⟩:=I.lstM hH
  have hlen:its.toArray.size*k.toNat≤PY:=by rw [Qj,←hl];exact hz
  have hcap:¬its.toArray.size*k.toNat > (2 ^ 63 - 1) / 8:=by
    have:(PY:Nat)≤(2 ^ 63 - 1) / 8:=by decide
    lia
  have hfit:¬(!Builtin.List.listFitsIndex k)=true:=by
    rw [fitsIndex_both h1 h2]
    exact Sr
  have hlong:¬Ut (its.toArray.size*k.toNat)=true:=by
    rw [AR hlen]
    exact Sr
  have hnew:SU (fun x1 x2=>x1++x2) #[] (PX (if its.toArray.isEmpty=true then 0 else k.toNat) its.toArray)=(PX k.toNat its).flatten.toArray:=by
    have f0:∀m:Nat,SU (fun x1 x2=>x1++x2) #[] (PX m its.toArray)=(PX m its).flatten.toArray:=fun m=>by
      have:=rS its m []
      rw [QS] at this
      exact this
    rw [f0]
    cases its with
    | nil=>simp
    | cons a r'=>rw [if_neg (by simp)]
  refine wpAny_binaryOp_repeat_ref (T:="list") (U:="int") (by decide) ⟨_,e,rfl⟩ (fun s'=>Tf s' k t) noFill_list_mul F.fills_int_mul TK repeat_list F.slot_int_index.lookup
    (RD TK (Tf s k t) F.entry_int_rmul (F.args_int_rmul_2 _ _) (int___rmul___int_list k t l its.toArray n)
      ⟨e,rfl,⟨_,e,rfl⟩,RD F.slot_list_mul ⟨_,e,rfl⟩ F.entry_list_mul (F.args_list_mul_2 _ _) (AutoListH.list___mul___list_int_3 l its.toArray n k t hfit hcap hlong) ⟨e,?_⟩⟩)
  rw [hnew]
  exact⟨.ref _,_,I.lnew (t':=s.toks) (r.rep k.toNat) (by rw [C2,Nat.mul_comm];exact hz),rfl,q _ I.fresh⟩
end
section
variable{prog:PK}{w:PJ}{A:PP}{E:MG→PB→Prop}{s:PB}
end
section
variable{X:Cx}
end
end L2
namespace Att
open PySem PySem.W PySem.Calls PyProof.Rows
theorem o8{P:Params}{h:PL}:∀(ns:List Int) (vs:List MG),WellAll P h vs (ns.map WData.int)→RK vs ns:=by
  intro ns
  induction ns with
  | nil=>
    intro vs w
    rw [Qv] at w
    cases w
    exact .nil
  | cons n ns ih=>
    intro vs w
    rw [Qk] at w
    cases w with
    | cons a b=>
      cases a
      exact .cons _ _ (ih _ b)
theorem zB{l:OpenLaw}{n:Nat}(hn:l.most=some n){P:Params}{h:PL}{args:List WData}{vals:List MG}
    (hpre:l.row.toRowW.claim.pre args=true)(hwl:WellAll P h vals args):
    ∃a vs ns,vals=[Value.ref a]∧args=[WData.list (ns.map WData.int)]∧h.get? a=some {cls:=.type "list",data:=.seq vs.toArray}∧RK vs ns∧ns.length≤n:=by
  have hsh:WShape.hasAll [] args [.list .int]=true:=(pre_splitW hpre).1
  have hc:l.pre.holds [] {args:=args}=true:=(pre_splitW hpre).2
  obtain⟨d,r,rfl,h1,h2⟩:=hasAllW_cons hsh
  obtain rfl:=hasAllW_nil h2
  obtain⟨xs,rfl,h3⟩:=hasW_list h1
  obtain⟨ns,rfl⟩:=items_int h3
  have hlen:ns.length≤n:=by
    unfold OpenLaw.pre at hc
    have h4:(WTm.not (.lt (.lit (.int (n:Int))) (.len (.arg 0)))).holds [] {args:=[.list (ns.map .int)]}=true:=by
      have h4:=(holds_andW hc).1
      rw [hn] at h4
      exact h4
    have h5:=condW_of h4 (w_not (w_lt w_lit (w_len_list (w_arg rfl))))
    rw [Qh] at h5
    refine Nat.le_of_not_lt fun q=>?_
    have q':(n:Int) < ((ns.length:Nat):Int):=by lia
    first
      | (rw [decide_eq_true q'] at h5;exact absurd h5 (by decide))
      | (simp at h5;lia)
  cases hwl with
  | cons w1 w2=>
    cases w2
    cases w1 with
    | list ho hall=>exact⟨_,_,ns,rfl,rfl,ho,o8 ns _ hall,hlen⟩
theorem zy(l:OpenLaw)(args:List WData):l.row.toRowW.claim.post args (.bool true) args=true:=
  postW_of (r:=l.row.toRowW) (X:=(true==true))
    (show WShape.has [] (.bool true) .bool=true by first | rfl | decide | simp [WShape.has,WShape.arms,WShape.armsAll])
    (show(WTm.eq .res (.lit (.bool true))).value [] {args:=args,res:=some (.bool true),after:=args}=some (.bool (true==true)) from w_eq_bool (w_res rfl) w_lit) rfl
theorem attach_call{l:OpenLaw}{n:Nat}{q:PK}{loose:List Str}{XP:(Str→Option MG)→PL→Prop}{YP:PJ→PL→Prop}{d:DefRec}
    (hn:l.most=some n)(hdf:d.params.defaults=[])
    (call:∀(w:PJ) (s₀ s₁:PB) (mg mb:Str→Option MG) (fa:xM) (o:Obj) (pm cd doc:MG) (a:xM) (vs:List MG) (ns:List Int),
      Ground q loose [] XP w s₀ mg mb s₁.heap→YP w s₁.heap→
      s₁.heap.get? fa=some o→o.data=.func (docDef d.name d.params d.body d.scope pm cd doc)→s₁.heap.CodeRec cd d.name→mg d.name=some (.ref fa)→
      s₁.heap.get? a=some {cls:=.type "list",data:=.seq vs.toArray}→RK vs ns→ns.length≤n→s₁.gens=#[]→
      codeAny (PQ l.prog w) callerA (.call (.ref fa) ⟨[.ref a],[]⟩) (fun r s'=>r=.ok (.ret (.bool true))∧OldK s₁.heap s'.heap∧s'.os=s₁.os∧AllBare s'.gens) s₁):
    WalkO q loose XP YP l.row.toRowW d [] (fun f vs=>PySem.call f vs):=by
  intro w s₀ s₁ mg mb G Y fa o pm cd doc dV kV ho hd hcd hD hmg hg args vals as hpre hlay hrd hwl hlo
  obtain rfl:dV=.none:=Dflts.none hD hdf
  obtain rfl:kV=.none:=Dflts.noKw hD
  obtain⟨a,vs,ns,rfl,rfl,hobj,hints,hlen⟩:=zB hn hpre hwl
  refine enter_call (codeAny_mono (call w s₀ s₁ mg mb fa o pm cd doc a vs ns G Y ho (fd_plain hd) hcd hmg hobj hints hlen hg) fun r s' hq=>?_)
  obtain⟨rfl,h2,h3,h4⟩:=hq
  exact⟨.inl ⟨.bool true,.bool true,[],rfl,fun _=>rfl,.bool true,zy l _,fun _=>⟨List.Pairwise.nil,fun _ hm=>(nomatch hm)⟩⟩,h2,h3,h4⟩
section
variable{prog:PK}{w:PJ}{A:PP}{E:MG→PB→Prop}{s:PB}{K:Frag}
end
end Att
namespace L2
open PySem PySem.Spec PyProof.Rows
theorem oh:∀{vs:List MG} {ns:List Int},RK vs ns→aV (ns.map V.int) vs
  | _,_,.nil=>.nil
  | _,_,.cons n t h=>.cons ⟨t,rfl⟩ (oh h)
def Fv(H:Hp):Prop:=∀b,H b=none∨∃o xs,H b=some (.frz o (.lst xs))
theorem Az{P:PK}{w:PJ}{K:PF}{mg mb:Str→Option MG}{CX:uH}{k:Nat}{fa a:xM}{fd:PZ}{x:Str}{sp:Sp}{s₁:PB}{vs:List MG}{ns:List Int}
    (KX:K.In s₁.heap)(hns:s₁.heap.Ns Qn mg)(hb:s₁.heap.Ns builtinsNs mb)(hbb:∀x:Str,x≠"__name__"→mb x=Rt x)(hlim:s₁.heap.NoLimit)(hg:s₁.gens=#[])
    (ha:s₁.heap.get? a=some {cls:=.type "list",data:=.seq vs.toArray})(hi:RK vs ns)(hl:ns.length≤PY)(hr:cg k callerA)
    (F:∀base:PL,K.In base→base.Ns Qn mg→aP P w K mg base CX k fa fd [x] sp)(hbind:∀(s:PB) (u:MG),BindsTo s fd ⟨[u],[]⟩ [(x,u)])
    (hsp:∀H:Hp,Fv H→iJ K H a (ns.map V.int)→sp [.ref a] H (fun v _=>v=.bl true) fun _ _ _=>False)
    (hCX:∀H e s',CX [] H s₁ (fun _ _ _=>False) e s'→False):
    codeAny (PQ P w) callerA (.call (.ref fa) ⟨[.ref a],[]⟩) (fun r s'=>r=.ok (.ret (.bool true))∧OldK s₁.heap s'.heap∧s'.os=s₁.os∧AllBare s'.gens) s₁:=by
  have rv:=oh hi
  have lenV:=hi.length
  have core:∀H:Hp,Fv H→iJ K H a (ns.map V.int)→oY P w H s₁.heap→(∀b,H b≠none→b=a)→(H a≠none→K.lookup a=none)→
      codeAny (PQ P w) callerA (.call (.ref fa) ⟨[.ref a],[]⟩) (fun r s'=>r=.ok (.ret (.bool true))∧OldK s₁.heap s'.heap∧s'.os=s₁.os∧AllBare s'.gens) s₁:=by
    intro H hO hS hok hA hK
    have base_of:∀{b:xM} {o:Obj},s₁.heap.get? b=some o→H b=none→(tQ s₁.heap H).get? b=some o:=fun e n=>Ao e n
    have noA:∀{b:xM} {o:Obj} {es:Array Sj} {ep:Nat},s₁.heap.get? b=some o→o.data=.dict es ep→H b=none:=fun{b o es ep} e d=>by
      cases q:H b with
      | none=>rfl
      | some u=>
        have e':b=a:=hA b (by rw [q];simp)
        subst e'
        rw [ha] at e;cases e
        have d':Data.seq vs.toArray _=Data.dict es ep:=d
        cases d'
    have nsK:∀{b:xM} {m:Str→Option MG},s₁.heap.Ns b m→(tQ s₁.heap H).Ns b m:=fun{b m} ⟨o,es,ep,e,d,r⟩=>⟨o,es,ep,base_of e (noA e d),d,r⟩
    have hKb:K.In (tQ s₁.heap H):=fun b o e=>base_of (KX b o e) (by
      cases q:H b with
      | none=>rfl
      | some u=>
        have e':b=a:=hA b (by rw [q];simp)
        subst e'
        rw [hK (by rw [q];simp)] at e;cases e)
    have hM:Mod K mg (tQ s₁.heap H):=⟨hKb,nsK hns,⟨mb,nsK hb,hbb⟩,let ⟨mc,h1,h2⟩:=hlim;⟨mc,nsK h1,h2⟩⟩
    have e0:wx P w K mg (tQ s₁.heap H) callerA [] s₁ H:=⟨rfl,hM,fun b o e=>Dd e,Nat.le_of_eq (ze _ _),trivial,fun b hb=>absurd (show b∈([]:List xM) from hb) (by simp),hok,.of_eq hg⟩
    refine codeAny_mono ((F _ hKb (nsK hns)).run callerA [] s₁ H ⟨[.ref a],[]⟩ [.ref a] [.ref a] _ _ hr e0 (hbind s₁ (.ref a)) (.cons rfl .nil) (hsp H hO hS)) fun r s' h=>?_
    cases r with
    | error e=>exact(hCX H e s' h).elim
    | ok fl=>
      cases fl with
      | next=>exact Rf h
      | brk=>exact Rf h
      | cont=>exact Rf h
      | ret u=>
        obtain⟨v,H',os,bare,un,hok',r',q⟩:=h
        have q':v=.bl true:=q
        subst q'
        obtain rfl:u=Value.bool true:=r'
        refine⟨rfl,OldK.of_keep fun b o e=>?_,os,bare⟩
        cases q:H b with
        | none=>exact un.keep b o e q (by intro z;exact absurd (show b∈([]:List xM) from z) (by simp)) (by simp)
        | some u=>
          rcases hO b with z | ⟨ob,xs,z⟩
          · rw [q] at z;cases z
          · have z2:=un.frzs b ob _ z
            obtain⟨e1,_⟩:=hok b _ z
            obtain⟨e2,_⟩:=hok' b _ z2
            rw [e] at e1;cases e1
            exact e2
  cases hk:K.lookup a with
  | some o=>
    have e:=KX a o hk
    rw [ha] at e
    cases e
    refine core (fun _=>none) (fun _=>.inl rfl) (.inr ⟨_,vs.toArray,_,hk,rfl,rfl,rfl,by rw [Qj,lenV];exact hl,by simpa using rv⟩) (fun b u z=>by have z':(none:Option HO)=some u:=z;cases z') (fun b z=>absurd rfl z) fun z=>absurd rfl z
  | none=>
    refine core (fun b=>if b=a then some (.frz {cls:=.type "list",data:=.seq vs.toArray} (.lst (ns.map V.int))) else none) (fun b=>?_) (.inl (.inr ⟨{cls:=.type "list",data:=.seq vs.toArray},if_pos rfl⟩)) (fun b u z=>?_) (fun b z=>?_) fun _=>hk
    · by_cases hb:b=a
      · exact .inr ⟨_,_,if_pos hb⟩
      · exact .inl (if_neg hb)
    · by_cases hb:b=a
      · have z':=(if_pos hb).symm.trans z
        cases z'
        subst hb
        exact⟨ha,by rw [Qh];exact hl,vs,_,rv,ha⟩
      · have z':=(if_neg hb).symm.trans z
        cases z'
    · by_cases hb:b=a
      · exact hb
      · exact absurd (if_neg hb) z
theorem walk_of{l:PySem.W.OpenLaw}{n k:Nat}{q:PK}{loose:List Str}{XP:(Str→Option MG)→PL→Prop}{YP:PJ→PL→Prop}{d:DefRec}{K:Params→PF}{CX:PJ→uH}{sp:PJ→Sp}{x:Str}
    (hn:l.most=some n)(hn2:n≤PY)(hdf:d.params.defaults=[])(hr:cg k callerA)
    (hY:∀(w:PJ) (h:PL),YP w h→(K w.params).In h)
    (F:∀(w:PJ) (mg:Str→Option MG) (fa:xM) (h:PL),(K w.params).In h→h.Ns Qn mg→mg d.name=some (.ref fa)→
      ∃fd:PZ,(∀(s:PB) (u:MG),BindsTo s fd ⟨[u],[]⟩ [(x,u)])∧
        ∀base:PL,(K w.params).In base→base.Ns Qn mg→aP l.prog w (K w.params) mg base (CX w) k fa fd [x] (sp w))
    (hsp:∀(w:PJ) (H:Hp) (a:xM) (ns:List Int),ns.length≤n→Fv H→iJ (K w.params) H a (ns.map V.int)→sp w [.ref a] H (fun v _=>v=.bl true) fun _ _ _=>False)
    (hCX:∀(w:PJ) (H:Hp) (s:PB) (e:MG) (s':PB),CX w [] H s (fun _ _ _=>False) e s'→False):
    PySem.W.WalkO q loose XP YP l.row.toRowW d [] (fun f vs=>PySem.call f vs):=by
  refine Att.attach_call hn hdf fun w s₀ s₁ mg mb fa o pm cd doc a vs ns G Y ho hd hcd hmg hobj hints hlen hg=>?_
  have KX:=hY w _ Y
  obtain⟨fd,hb,hF⟩:=F w mg fa _ KX G.T.g hmg
  exact Az KX G.T.g G.T.b G.T.builtins G.T.nolimit hg hobj hints (Qq hlen hn2) hr hF hb (fun H hO hS=>hsp w H a ns hlen hO hS) fun H e s'=>hCX w H s₁ e s'
abbrev cM:uH:=fun _ _ _ _ _ _=>False
abbrev E0:XK:=fun _ _ _=>False
theorem vD{X:Cx}:lD cM X E0:=fun _ _ _ _ _ _ _ h=>h.elim
structure uE (K:PF) (x qual:Str) (st:PN) (f:xM) (fd:PZ):Prop where
  ex:∃(oc:MG) (od:Option xM) (kV doc pm:MG) (an:Option xM) (cdv ct:MG) (osl:Array (Option MG)),
    fd=Rb x qual (eg st) (cO st) (ar st) .none kV doc pm an cdv ct∧K.lookup f=some ⟨oc,od,.func fd,osl⟩∧Te K cdv qual=true
  kp:Sa K (.ref f)=true
section
variable{P:PK}{w:PJ}{K:PF}{mg:Str→Option MG}{base:PL}
theorem uE.ok{x qual:Str}{st:PN}{f:xM}{fd:PZ}{N ps:List Str}{k:Nat}{sp:Sp}(F:uE K x qual st f fd)(S:az N ps (ar st))(len:∀vs H Q E,sp vs H Q E→vs.length=ps.length)
    (hbody:∀(cdv:MG) (A:PP) (outer:List Env) (s:PB) (H:Hp) (vs:List V) (Q:VK) (E:XK),cg k (A.deeper (envOfC qual (ar st) s.heap.objs.size f cdv))→sp vs H Q E→
      ∃t,kQ (uT cM P w K mg base N qual (ar st) f cdv A outer s H E).nox (cO st) t∧t {nx:=fun _ H'=>Q .non H',rt:=Q} (iP N vs) H):aP P w K mg base cM (k+1) f fd ps sp:=by
  obtain⟨oc,od,kV,doc,pm,an,cdv,ct,osl,rfl,lk,hcd⟩:=F.ex
  refine IJ lk hcd S len fun A outer s H vs Q E hr hsp=>?_
  obtain⟨t,h,q⟩:=hbody cdv A outer s H vs Q E hr hsp
  exact⟨t,h.nox,q⟩
theorem uE.binds{x qual:Str}{st:PN}{f:xM}{fd:PZ}{ps:List Str}(F:uE K x qual st f fd)
    (h:∀(kV doc pm:MG) (an:Option xM) (cdv ct:MG) (us:List MG),us.length=ps.length→bindArgs (Rb x qual (eg st) (cO st) (ar st) .none kV doc pm an cdv ct) ⟨us,[]⟩=pure (ps.zip us)):eQ K fd ps []:=by
  obtain⟨oc,od,kV,doc,pm,an,cdv,ct,osl,rfl,lk,hcd⟩:=F.ex
  exact .all (h kV doc pm an cdv ct)
theorem lI{x qual:Str}{st:PN}{f:xM}{oc:MG}{od an:Option xM}{osl:Array (Option MG)}{kV doc pm cdv ct:MG}(l:K.lookup f=some ⟨oc,od,.func (Rb x qual (eg st) (cO st) (ar st) .none kV doc pm an cdv ct),osl⟩)
    (c:Te K cdv qual=true)(k:Sa K (.ref f)=true):uE K x qual st f (Rb x qual (eg st) (cO st) (ar st) .none kV doc pm an cdv ct):=⟨⟨oc,od,kV,doc,pm,an,cdv,ct,osl,rfl,l,c⟩,k⟩
end
theorem sE{n:Nat}(h:n≤1000):n < PY:=Uv h (by decide)
section
variable{X:Cx}
end
theorem IX{A B:Prop}(h:B):if false=true then A else B:=by
  rw [if_neg Sr]
  exact h
theorem IY{A B:Prop}(h:A):if true=true then A else B:=by
  rw [if_pos rfl]
  exact h
def ax(H H':Hp):Prop:=∀b o,H b=some o→H' b=some o
theorem ax.refl(H:Hp):ax H H:=fun _ _ h=>h
theorem ax.trans{H H1 H2:Hp}(a:ax H H1)(b:ax H1 H2):ax H H2:=fun c o h=>b c o (a c o h)
theorem ax.free{H H':Hp}(e:ax H H'){l:xM}(h:H' l=Option.none):H l=Option.none:=by
  cases q:H l with
  | none=>rfl
  | some o=>
    rw [e l o q] at h
    cases h
theorem ax.seq{K:PF}{H H':Hp}{a:xM}{xs:List V}(e:ax H H')(h:iJ K H a xs):iJ K H' a xs:=by
  rcases h with (h | ⟨o,h⟩) | h
  · exact .inl (.inl (e _ _ h))
  · exact .inl (.inr ⟨o,e _ _ h⟩)
  · exact .inr h
end L2
set_option maxHeartbeats 4000000
namespace L2
open PySem PySem.Spec PyProof.Rows
def Bt(n:Nat)(i:Int):Prop:=i.natAbs < 2 ^ n
theorem Bt.mono{m n:Nat}{i:Int}(h:Bt m i)(hm:m≤n):Bt n i:=QG h (Tg (by decide) hm)
theorem Bt.log{m:Nat}{i:Int}(h:Bt m i)(hm:0 < m):i.natAbs.log2 < m:=by
  unfold Bt at h
  rcases Nat.eq_zero_or_pos i.natAbs with h0 | hp
  · rw [h0];exact hm
  · exact(Nat.log2_lt (by lia)).mpr h
theorem Bt.bits{m:Nat}{i:Int}(h:Bt m i)(hm:0 < m):Builtin.Int.intBits i≤m:=by
  unfold Builtin.Int.intBits
  split
  · exact Sb _
  · exact h.log hm
theorem Bt.of_le{m:Nat}{i:Int}{j:Int}(h:Bt m j)(e:i.natAbs≤j.natAbs):Bt m i:=Uv e h
section
variable{X:Cx}
def Ez(i j:Int):Prop:=Bt 4000 i∧Bt 4000 j
theorem Dt:iH X (Qt .Mult) (rI Ez fun i j=>.int (i*j)):=Jn fun _ _ _ _ _ _ _ hc q=>
  mul_int q (.of_bits (Qq (hc.1.bits (by decide)) (by decide)) (Qq (hc.2.bits (by decide)) (by decide)))
def Ey(i j:Int):Prop:=j≠0∧Bt 8000 j
theorem A6:iH X (Qt .FloorDiv) (rI Ey fun i j=>.int (i.fdiv j)):=Jn fun _ _ _ _ _ _ _ hc q=>
  floordiv_int hc.1 q (.inl (PyProof.noPylong_of_log2 (Nat.lt_trans (hc.2.log (by decide)) (by decide))))
theorem GW:iH X (QB .Is) (fun x y H Q=>∃b c,x=.bl b∧y=.bl c∧Q (.bl (b==c)) H):=by
  intro pins s σ H x y v u Q I rx ry h
  obtain⟨b,c,rfl,rfl,q⟩:=h
  cases rx;cases ry
  exact is_bool ⟨.bl _,H,I,rfl,q⟩
end
def om(H H':Hp):Prop:=∀a o,H a=some o→(∀xs,o≠.lst xs)→(∀ob xs,o≠.frz ob (.lst xs))→H' a=some o
theorem om.trans{H H1 H2:Hp}(a:om H H1)(b:om H1 H2):om H H2:=fun c o h n m=>b c o (a c o h n m) n m
theorem ax.ts{H H':Hp}(h:ax H H'):om H H':=fun a o e _ _=>h a o e
theorem om.tup{K:PF}{H H':Hp}(h:om H H'){a:xM}{xs:List V}(q:fB K H a xs):fB K H' a xs:=by
  rcases q with (q | ⟨o,q⟩) | q
  · exact .inl (.inl (h _ _ q (fun _ e=>nomatch e) (fun _ _ e=>nomatch e)))
  · exact .inl (.inr ⟨o,h _ _ q (fun _ e=>nomatch e) (fun _ _ e=>nomatch e)⟩)
  · exact .inr q
section
variable{X:Cx}
end
structure fy (K:PF) (mg:Str→Option MG) (x:Str) (st:PN) (f:xM) (fd:PZ) (ps:List Str):Prop where
  F:uE K x x st f fd
  m:mg x=some (.ref f)
  b:eQ K fd ps []
theorem FW{K:PF}{mg:Str→Option MG}{h:PL}{x:Str}{st:PN}{f:xM}{ps:List Str}{oc:MG}{od an:Option xM}{osl:Array (Option MG)}{kV doc pm cdv ct:MG}(X:K.In h)(G:h.Ns Qn mg)(a:Rx K Qn x=some (some (.ref f)))
    (l:K.lookup f=some ⟨oc,od,.func (Rb x x (eg st) (cO st) (ar st) .none kV doc pm an cdv ct),osl⟩)(c:Te K cdv x=true)(k:Sa K (.ref f)=true)
    (hb:∀(kV doc pm:MG) (an:Option xM) (cdv ct:MG) (us:List MG),us.length=ps.length→bindArgs (Rb x x (eg st) (cO st) (ar st) .none kV doc pm an cdv ct) ⟨us,[]⟩=pure (ps.zip us)):
    fy K mg x st f (Rb x x (eg st) (cO st) (ar st) .none kV doc pm an cdv ct) ps:=⟨lI l c k,RM X G a,(lI l c k).binds hb⟩
theorem Jt{X:Cx}{x:Str}{st:PN}{f:xM}{fd:PZ}{ps:List Str}{k:Nat}{sp:Sp}{e:PH}{es:List PH}{t:TA}{p pos:Pos}(h:fy X.K X.mg x st f fd ps)(G:aP X.prog X.w X.K X.mg X.base cM k f fd ps sp)(hr:cg k X.A)(ha:PA X (e::es) t)
    (hg:Gl X x:=by rfl)(hdb:(x==("__debug__":Str))=false:=by decide)(he:PU (e::es) X.env=(false,PV e X.env)::PU es X.env:=by rfl)(hpl:(Qf pos (PU es X.env)).any (·.1)=false:=by rfl):
    PE X (.Call (.Name x p) (e::es) [] pos) (sJ sp [] E0 t):=Dz G hr hg h.m h.F.kp h.b .nil vD ha hdb he hpl
theorem ax.new{H:Hp}{p:xM}{o:HO}(h:H p=none):ax H (cy H p o):=fun b u e=>by
  rw [aY (fM e h)];exact e
theorem ax.tup{K:PF}{H H':Hp}{a:xM}{xs:List V}(e:ax H H')(h:fB K H a xs):fB K H' a xs:=e.ts.tup h
theorem K0{i:Int}(h1: -18446744073709551616 < i)(h2:i < 18446744073709551616):Bt 8000 i:=Bt.mono (m:=64) (by unfold Bt;lia) (by decide)
def gJ(t b:Int):Int × Int:=if b < 0 then(t.fdiv (-(Qd t b:Int)),b.fdiv (-(Qd t b:Int))) else(t.fdiv (Qd t b:Int),b.fdiv (Qd t b:Int))
theorem Al(x y:Int):Qd y (x.fmod y)=Qd x y:=by
  rw [Int.fmod_def,Int.gcd_sub_mul_left_right,Int.gcd_comm]
theorem oA(x:Int){y:Int}(h:y≠0):(x.fmod y).natAbs < y.natAbs:=by
  rcases Int.lt_or_gt_of_ne h with h | h
  · have h1:x.fmod y= -((-x).fmod (-y)):=by
      have:=Int.neg_fmod_neg x y
      lia
    have h2:=Int.fmod_nonneg_of_pos (-x) (b:= -y) (by lia)
    have h3:=Int.fmod_lt_of_pos (-x) (b:= -y) (by lia)
    lia
  · have h2:=Int.fmod_nonneg_of_pos x h
    have h3:=Int.fmod_lt_of_pos x h
    lia
theorem ye{t b:Int}(h:b≠0):(0:Int) < Qd t b:=by
  have:=Int.gcd_pos_of_ne_zero_right t h
  lia
theorem r9{t b:Int}(h:b≠0):∃d:Int,d.natAbs=Qd t b∧d≠0∧(gJ t b).1*d=t∧(gJ t b).2*d=b∧0 < (gJ t b).2:=by
  have hg:=ye (t:=t) h
  have d1:(Qd t b:Int) ∣ t:=Int.gcd_dvd_left ..
  have d2:(Qd t b:Int) ∣ b:=Int.gcd_dvd_right ..
  unfold gJ
  split
  · rename_i hb
    have e1:t.fdiv (-(Qd t b:Int))*(-(Qd t b:Int))=t:=TM (Int.neg_dvd.mpr d1)
    have e2:b.fdiv (-(Qd t b:Int))*(-(Qd t b:Int))=b:=TM (Int.neg_dvd.mpr d2)
    refine⟨-(Qd t b:Int),by lia,by lia,e1,e2,?_⟩
    show 0 < b.fdiv (-(Qd t b:Int))
    have h3:b.fdiv (-(Qd t b:Int))*(Qd t b:Int)= -b:=by rw [Int.mul_neg] at e2;lia
    exact Int.pos_of_mul_pos_left (by lia) (by lia) (b:=(Qd t b:Int))
  · rename_i hb
    have e1:t.fdiv (Qd t b:Int)*(Qd t b:Int)=t:=TM d1
    have e2:b.fdiv (Qd t b:Int)*(Qd t b:Int)=b:=TM d2
    refine⟨(Qd t b:Int),by lia,by lia,e1,e2,?_⟩
    show 0 < b.fdiv (Qd t b:Int)
    exact Int.pos_of_mul_pos_left (by lia) (by lia) (b:=(Qd t b:Int))
theorem AC{t b:Int}(h:b≠0):Qd (gJ t b).1 (gJ t b).2=1:=by
  obtain⟨d,h1,h2,h3,h4,h5⟩:=r9 (t:=t) h
  have e:Qd ((gJ t b).1*d) ((gJ t b).2*d)=Qd (gJ t b).1 (gJ t b).2*d.natAbs:=Int.gcd_mul_right ..
  rw [h3,h4,←h1] at e
  have hd:0 < d.natAbs:=by lia
  exact(Nat.eq_of_mul_eq_mul_right hd (by rw [Nat.one_mul];exact e)).symm
theorem FV{t b:Int}(h:b≠0){n:Nat}(hb:Bt n b):Bt n (Qd t b:Int):=by
  refine hb.of_le ?_
  have h1:=Nat.le_of_dvd (show 0 < b.natAbs by lia) (Int.ofNat_dvd.mp (by rw [Int.dvd_natAbs];exact Int.gcd_dvd_right t b))
  lia
mutual
def cnt:PD→Nat
  | .tuple ds=>1+lG ds
  | .str _=>0
  | _=>1
def lG:List PD→Nat
  | []=>0
  | d::ds=>cnt d+lG ds
end
mutual
def p_:PD→Bool
  | .tuple ds=>jb ds
  | .str _=>false
  | .list _=>false
  | .dict _=>false
  | _=>true
def jb:List PD→Bool
  | []=>true
  | d::ds=>p_ d&&jb ds
end
theorem rc{a:Int}(h:a.natAbs.log2 < 1920):(Pz (toString a)).length≤1921:=by
  have e:=int_text_length_le (k:=1920) (by decide) h
  rw [PySem.ofString_length];lia
theorem xr(x:Str)(r:List Str):piled (x::r)=x.length+2+piled r:=by
  simp [piled]
theorem zK(ts:List Str):(tupleText ts).length≤piled ts+3:=by
  unfold tupleText
  rw [strLen_append,strLen_append]
  have h1:(("(":Str)).length=1:=by decide
  have h2:(Pz (if (ts.length==1)=true then ",)" else ")")).length≤2:=by split<;>decide
  have h3:(Qx ", " ts).length≤piled ts:=by
    cases ts with
    | nil=>show(Qx ", " []).length≤0;decide
    | cons x r=>have:=join_length_add (x::r) (by simp);lia
  lia
mutual
theorem sD:∀{d:PD},p_ d=true→d.showable=true→d.shown.length+2≤2000*cnt d
  | .none,_,_=>by show(Pz "None").length+2≤2000*1;decide
  | .bool b,_,_=>by
    cases b
    · show(Pz "False").length+2≤2000*1;decide
    · show(Pz "True").length+2≤2000*1;decide
  | .int i,_,hs=>by
    simp only [PyData.showable,decide_eq_true_eq] at hs
    have:=rc hs
    show(Pz (toString i)).length+2≤2000*1
    lia
  | .tuple ds,hn,hs=>by
    simp only [PyData.showable] at hs
    simp only [p_] at hn
    have h1:=nj hn hs
    have h2:=zK (TN ds)
    simp only [PyData.shown,cnt]
    lia
  | .str _,hn,_=>by simp [p_] at hn
  | .list _,hn,_=>by simp [p_] at hn
  | .dict _,hn,_=>by simp [p_] at hn
theorem nj:∀{ds:List PD},jb ds=true→TU ds=true→piled (TN ds)≤2000*lG ds
  | [],_,_=>by simp [TN,piled]
  | d::ds,hn,hs=>by
    simp only [jb,QD] at hn
    simp only [TU,QD] at hs
    have h1:=sD hn.1 hs.1
    have h2:=nj hn.2 hs.2
    simp only [TN,lG,xr]
    lia
end
def jx(env:Env):List (Str × QR)→List (Str × xM)→List (Str × xM)
  | [],cs=>cs
  | (n,k)::r,cs=>jx env r (if k==.free then(n,(env.cells.lookup n).getD 0)::cs else cs)
theorem md{env:Env}:∀(names:List (Str × QR)) (cs:List (Str × xM)),(∀y∈names,y.2=.free→∃c,env.cells.lookup y.1=some c)→
    (forIn names cs (fun(x:Str × QR) (r:List (Str × xM))=>(if (x.2==QX)=true then do let a ←cellOf env x.1;pure (SV ((x.1,a)::r)) else pure (SV r):Sem (ForInStep (List (Str × xM))))):Sem (List (Str × xM)))=pure (jx env names cs)
  | [],cs,_=>rfl
  | (n,k)::r,cs,h=>by
    rw [List.forIn_cons]
    have ih:=fun cs'=>md (env:=env) r cs' (fun y hy=>h y (QV _ hy))
    by_cases hk:(k==QX)=true
    · have hk':k=.free:=by simpa using hk
      obtain⟨c,hc⟩:=h (n,k) RG hk'
      have e:cellOf env n=pure c:=by unfold cellOf;rw [hc]
      simp only [hk,if_true,e,pure_bind,jx,hc,TV]
      exact ih _
    · have hk':(k==QX)=false:=by simpa using hk
      simp only [hk',SW,if_false,pure_bind,jx]
      exact ih _
theorem wH{scope:Qm}{env:Env}(h:∀y∈scope.names,y.2=.free→∃c,env.cells.lookup y.1=some c):closureFor scope env=pure (jx env scope.names []):=by
  have e:=md (env:=env) scope.names [] h
  unfold closureFor
  simp only [pure_bind,bind_pure] at e ⊢
  exact e
theorem pK{env:Env}:∀(names:List (Str × QR)) (cs:List (Str × xM)) (x:Str) (c:xM),(∀y∈names,y.2=.free→∃c,env.cells.lookup y.1=some c)→(∀x c,cs.lookup x=some c→env.cells.lookup x=some c)→(jx env names cs).lookup x=some c→env.cells.lookup x=some c
  | [],cs,x,c,_,hs,h=>hs x c h
  | (n,k)::r,cs,x,c,hn,hs,h=>by
    refine pK r _ x c (fun y hy=>hn y (QV _ hy)) (fun x' c' e=>?_) h
    by_cases hk:(k==QX)=true
    · rw [if_pos hk] at e
      obtain⟨c0,hc⟩:=hn (n,k) RG (by simpa using hk)
      rw [Qw] at e
      cases hx:x'==n with
      | true=>
        rw [hx] at e
        have e1:x'=n:=by simpa using hx
        subst e1
        simp only [hc,TV,Sk] at e
        rw [←e];exact hc
      | false=>rw [hx] at e;exact hs x' c' e
    · rw [if_neg hk] at e
      exact hs x' c' e
theorem uR{env:Env}:∀(names:List (Str × QR)) (cs:List (Str × xM)) (x:Str),((∃y∈names,y.1=x∧y.2=.free)∨∃c,cs.lookup x=some c)→∃c,(jx env names cs).lookup x=some c
  | [],cs,x,h=>by
    rcases h with ⟨y,hy,_⟩ | h
    · cases hy
    · exact h
  | (n,k)::r,cs,x,h=>by
    refine uR r _ x ?_
    by_cases hk:(k==QX)=true
    · rw [if_pos hk,Qw]
      cases hx:x==n with
      | true=>exact .inr ⟨_,rfl⟩
      | false=>
        rcases h with ⟨y,hy,e1,e2⟩ | h
        · rcases Px hy with z | z
          · subst z;subst e1;simp at hx
          · exact .inl ⟨y,z,e1,e2⟩
        · exact .inr h
    · rw [if_neg hk]
      rcases h with ⟨y,hy,e1,e2⟩ | h
      · rcases Px hy with z | z
        · subst z;exact absurd (by simpa using e2) hk
        · exact .inl ⟨y,z,e1,e2⟩
      · exact .inr h
theorem jV{env:Env}:∀{names:List (Str × QR)} {x:Str},names.lookup x=some .free→
    (names.map fun(n,k)=>if (k==QX&&env.scope.kind==.function&&env.kindOf n==some .cell) then(n,Sx) else(n,k)).lookup x≠some .local
  | [],x,h=>by simp at h
  | (n,k)::r,x,h=>by
    rw [Qk]
    cases hx:x==n with
    | true=>
      simp only [hx,Qw] at h
      cases h
      show QP x ((if (QX==QX&&env.scope.kind==.function&&env.kindOf n==some .cell)=true then(n,Sx) else(n,QX))::_)≠_
      split<;>simp [Qw,hx]
    | false=>
      simp only [hx,Qw] at h
      have ih:=@jV env r x h
      have e2:∀(l:List (Str × QR)),((if (k==QX&&env.scope.kind==.function&&env.kindOf n==some .cell)=true then(n,Sx) else(n,k))::l).lookup x=l.lookup x:=fun l=>by
        split<;>simp [Qw,hx]
      simp only [e2]
      exact ih
def Cg(X:Cx)(ifs:List PH)(t:TT):Prop:=
  ∀(pins:List (xM × Obj)) (s:PB) (σ:L2.St) (H:Hp) (Q:Bool→Hp→Prop),aN X pins σ H s→t σ H Q→
    PM (PQ X.prog X.w) X.A (forIn ifs true fun c r=>if r=true then do let ok ←isTrue c X.env (PV c X.env);pure (SV ok) else pure (SV r)) (TP X pins σ Q) X.xe s
theorem DR{X:Cx}:Cg X [] (fun _ H Q=>Q true H):=fun _ _ _ H _ I h=>wpAny_tests_nil ⟨H,I,h⟩
theorem DS{X:Cx}{c:PH}{t:TT}(h:PT X c t):Cg X [c] t:=fun pins s σ H Q I q=>wpAny_tests_one (h pins s σ H Q I q)
abbrev Ij:MG→PB→Prop:=fun _ _=>False
def FK(prog:PK)(w:PJ)(A:PP)(elt tg:PH)(ifs:List PH)(env:Env)(it acc:MG)(onward:PB→Prop)(v:MG)(u:PB):Prop:=
  PM (PQ prog w) A (Tv tg it v) (fun _ u1=>PM (PQ prog w) A (assign tg env v) (fun _ u2=>PM (PQ prog w) A
    (forIn ifs true fun c r=>if r=true then do let ok ←isTrue c env (PV c env);pure (SV ok) else pure (SV r)) (fun ok u3=>if ok=true then PM (PQ prog w) A (PV elt env) (fun x u4=>PM (PQ prog w) A (call (.builtin "list.append") [acc,x]) (fun _ u5=>onward u5) Ij u4) Ij u3 else onward u3) Ij u2) Ij u1) Ij u
theorem tJ{prog:PK}{w:PJ}{A:PP}{R:Result→PB→Prop}{elt tg iter:PH}{ifs:List PH}{scope:Qm}{pos:Pos}{it acc:MG}{env:Env}(J:Nat→PB→Prop)
    (turn:∀n u,J n u→PM (PQ prog w) A (pyNext it) (fun r u1=>(r=none→R (.ok .next) u1)∧∀v,r=some v→FK prog w A elt tg ifs env it acc (fun u2=>∃m,m < n∧J m u2) v u1) Ij u){n0:Nat}{u0:PB}(iP:J n0 u0):
    codeAny (PQ prog w) A (.compLoop (.ListComp elt [⟨tg,iter,ifs,0⟩] scope pos) 0 it acc env) R u0:=by
  refine codeAny_loop rfl J (fun n u ju=>?_) n0 iP
  show PM _ A ((compTurn (.ListComp elt [⟨tg,iter,ifs,0⟩] scope pos) 0 it acc env).onRaise _) _ _ u;refine wpAny_noted ?_;rw [compTurn_list]
  refine PR (wpAny_standAt (PR (Re (turn n u ju) (fun r u1 k1=>?_) fun _ _ z=>z.elim)))
  cases r with
  | none=>exact Qa (k1.1 rfl)
  | some v=>
    refine PR (Re (k1.2 v rfl) (fun _ u2 k2=>PR (Re k2 (fun _ u3 k3=>PR (Re k3 (fun ok u4 k4=>?_) fun _ _ z=>z.elim)) fun _ _ z=>z.elim)) fun _ _ z=>z.elim)
    cases ok with
    | false=>rw [if_neg Sr] at k4;exact Qa ⟨rfl,k4⟩
    | true=>
      rw [if_pos rfl] at k4
      refine PR (PR (Re k4 (fun x u5 k5=>PR (Re k5 (fun _ u6 k6=>?_) fun _ _ z=>z.elim)) fun _ _ z=>z.elim));exact Qa (Qa ⟨rfl,k6⟩)
def jP(cp:List (Nat × Str))(nT:Nat)(σ:L2.St):L2.St:=cp.map (fun p=>(σ[p.1]?).join)++PX nT none
structure B1 (cp:List (Nat × Str)) (nT:Nat) (wi:TI) (g:TG) (tc:TT) (te:TE) (σ:L2.St) (H:Hp) (Q:VK):Prop where
  go:wi σ H fun J H1=>∀l,H1 l=none→
  ∃W:Nat→Nat→L2.St→Hp→Prop,(∃m,W 0 m (jP cp nT σ) (cy H1 l (.lst [])))∧∀i m σ' H',W i m σ' H'→
    (J.stop i H'∧Q (.ref l) H')∨(J.go i H'∧∃N:L2.St→Hp→Prop,(∀σ2 H2,N σ2 H2→∃m',m' < m∧W (i+1) m' σ2 H2)∧
      ∀x H2,J.yld i H' x H2→g x σ' H2 fun σ2 H3=>tc σ2 H3 fun b H4=>if b=true then te σ2 H4 fun v H5=>∃ys,H5 l=some (.lst ys)∧ys.length < PY∧N σ2 (cy H5 l (.lst (ys++[v]))) else N σ2 H4)
section
variable{X:Cx}
def By(K:PF):R2:=fun x y H Q=>∃a b xs ys,x=.ref a∧y=.ref b∧fB K H a xs∧fB K H b ys∧xs.length+ys.length≤PY∧∀p H',ax H H'→fB K H' p (xs++ys)→Q (.ref p) H'
theorem Dn:iH X (Qt .Add) (By X.K):=by
  intro pins s σ H x y v u Q I rx ry h
  obtain⟨a,b,xs,ys,rfl,rfl,ha,hb,hz,q⟩:=h
  cases rx;cases ry
  by_cases hx:xs=[]
  · obtain⟨i1,r1,p1,_⟩:=I.tuple ha
    obtain⟨i2,r2,p2,_⟩:=I.tuple hb
    obtain⟨m,F⟩:=I.fr
    have e1:i1=[]:=by subst hx;cases r1;rfl
    refine add_tuples F (AM (g:=X.base)) p1 p2 (fun _=>?_) (fun z1 _=>absurd e1 z1) (fun z1 _ _ _ _=>absurd e1 z1) (by rw [←r1.length,←r2.length];exact hz)
    exact⟨.ref b,H,I,rfl,q b H (ax.refl H) (by rw [hx];exact hb)⟩
  · exact Dp pins s σ H (.ref a) (.ref b) _ _ Q I rfl rfl ⟨a,b,xs,ys,rfl,rfl,ha,hb,hx,hz,fun z=>q a H (ax.refl H) (by rw [z,Rh];exact ha),fun _ p hp=>q p _ (ax.new hp) (fB.of aM)⟩
theorem jK{x:V}{us:List MG}(r:aV [x] us):∃u,us=[u]∧bN x u:=by
  cases r with
  | cons p p'=>cases p';exact⟨_,rfl,p⟩
theorem z4{k:Nat}(hr:cg k X.A):dX X (.builtin "sum") (fun xs H Q=>∃(l:xM) (ns:List Int),xs=[.ref l]∧iJ X.K H l (ns.map V.int)∧Q (.int ns.sum) H):=by
  intro pins s σ H xs us Q I r h
  obtain⟨l,ns,rfl,hs,q⟩:=h
  obtain⟨u,rfl,ru⟩:=jK r
  cases ru
  obtain⟨its,rv,p,hz⟩:=I.list hs
  have hi:RK its ns:=pV rv
  obtain⟨ys,ey⟩:=hi.allInts.items
  have hl:=p.isList
  rw [ey] at hl
  refine PySem.sum_intListG hr.hd hl fun h' tk t' hk=>?_
  have e:preSum (numAt ys) ys.size=ns.sum:=by
    have e2:=nums_intItems (xs:=ys)
    rw [←ey] at e2
    have e3:=hi.numsOf
    rw [preSum_eq,Uw (by simp)]
    rw [show its.toArray.toList=its from rfl,e3] at e2
    rw [e2]
  exact⟨.int ns.sum,H,I.kept hk,⟨t',by rw [e]⟩,q⟩
theorem uS{prog:PK}{w:PJ}{A:PP}{E:MG→PB→Prop}{s:PB}{t:xM}{vs:List MG}{Q:List MG→PB→Prop}(ht:IsTup s.heap t vs.toArray)
    (h:Q vs {s with heap:=(s.heap.push (seqObj "list" #[] 0)).update s.heap.objs.size (RL (· ++vs.toArray))})(hsz:vs.length≤PY):PM (PQ prog w) A (collect (.ref t)) Q E s:=by
  obtain⟨o,ho,hc,n,hd⟩:=id ht;unfold collect;refine PR (wpAny_runValue (codeAny_builtin entry_proto_collect' ?_))
  show PM _ _ (do again (.builtin "list.__iadd__" ⟨[←newList [],.ref t],[]⟩)) _ _ s
  refine PR (wpAny_newList (Qa ⟨Code.quiet_builtin _ (by decide+kernel),?_⟩));refine codeAny_builtin entry_list_iadd' ?_
  show PM _ _ (UN (.ref s.heap.objs.size) (.ref t) (.ref s.heap.objs.size)) _ _ {s with heap:=s.heap.push (seqObj "list" #[] 0)}
  unfold UN;have ho':(s.heap.push (seqObj "list" #[] 0)).get? t=some o:=Qs _ ho
  refine PR (wpAny_typeOf (T:="tuple") ⟨o,ho',hc⟩ ?_)
  rw [if_pos (by rw [show(Value.type "tuple"==Value.type "tuple")=true from rfl,Bool.or_true])]
  refine PR (listItems_at ho' hd ?_);refine PR (listItems_at (xs:=#[]) (n:=0) (QL _ rfl) rfl ?_)
  rw [if_neg (by simp)];refine PR (listUpdate_at (xs:=#[]) (n:=0) (QL _ rfl) rfl ?_ (Sb _) (by show(#[]++vs.toArray).size≤PY+1;simp only [Array.size_append,Qj,List.length_nil];lia))
  refine Qa ?_
  show PM (PQ prog w) A (load s.heap.objs.size >>= fun o=>match o.data with | .seq xs _=>pure xs.toList | _=>unsupported "internal:collect") Q E {s with heap:=(s.heap.push (seqObj "list" #[] 0)).update s.heap.objs.size (RL (· ++vs.toArray))}
  refine PR (wpAny_load (get?_update_seq (QL _ rfl) _) ?_);show PM _ _ (pure ((#[]:Array MG)++vs.toArray).toList) Q E _;rw [show((#[]:Array MG)++vs.toArray).toList=vs by simp];exact Qa h
theorem xB{prog:PK}{w:PJ}{A:PP}{E:MG→PB→Prop}{s:PB}{t:xM}{vs:List MG}{ns:List Int}{Q:MG→PB→Prop}(ht:IsTup s.heap t vs.toArray)(hI:RK vs ns)(h64:vs.length < 64)
    (h:∀(out:Array MG) (ns':List Int),RK out.toList ns'→ns'.Perm ns→ns'.Pairwise (· ≤·)→Q (.ref (s.heap.objs.size+1)) {s with heap:=sortedAll s.heap vs out}):PM (PQ prog w) A (call (.builtin "sorted") [.ref t]) Q E s:=by
  refine Calls.call_function_entry kind_sorted plain_sorted entry_sorted (args_sorted1 _) ?_;unfold Builtin.«sorted»
  refine PR (m:=checkCount "sorted" 1 1 _) (Qa ?_);refine PR (uS ht ?_ (Qq (Sm h64) (by decide)))
  have z:((s.heap.push (seqObj "list" #[] 0)).update s.heap.objs.size (RL (· ++vs.toArray))).objs.size=s.heap.objs.size+1:=by rw [Heap.size_update,size_push']
  have o:(((s.heap.push (seqObj "list" #[] 0)).update s.heap.objs.size (RL (· ++vs.toArray))).push (seqObj "list" vs.toArray 0)).get? (s.heap.objs.size+1)=some (seqObj "list" vs.toArray 0):=by rw [←z];exact QL _ rfl
  refine PR (wpAny_newList ?_);show PM _ _ _ _ _ {s with heap:=((s.heap.push (seqObj "list" #[] 0)).update s.heap.objs.size (RL (· ++vs.toArray))).push (seqObj "list" vs.toArray 0)}
  rw [z];refine PR (Ry (wpAny_call_entry slot_list_sort ⟨_,o,rfl⟩ entry_list_sort (list_sort_tree o hI h64 fun out ns' b1 b2 b3=>⟨_,rfl,?_⟩) (args_list_sort _)))
  exact Qa ⟨_,rfl,h out ns' b1 b2 b3⟩
theorem uO:dX X (.builtin "sorted") (fun xs H Q=>∃(a:xM) (ns:List Int),xs=[.ref a]∧fB X.K H a (ns.map V.int)∧ns.length < 64∧∀(l:xM) (ns':List Int) (H':Hp),ax H H'→H l=none→H' l=some (.lst (ns'.map V.int))→ns'.Perm ns→ns'.Pairwise (· ≤·)→Q (.ref l) H'):=by
  intro pins s σ H xs us Q I r h
  obtain⟨a,ns,rfl,hs,h64,q⟩:=h
  obtain⟨u,rfl,ru⟩:=jK r
  cases ru
  obtain⟨its,rv,p,hz⟩:=I.tuple hs
  have hl:=rv.length
  rw [Qh] at hl
  refine xB p (pV rv) (by lia) fun out ns' a1 a2 a3=>?_
  obtain⟨e,he⟩:=sortedAll_at s.heap its out
  have hf:H (s.heap.objs.size+1)=none:=I.hok.fresh (Nat.le_succ _)
  refine⟨.ref (s.heap.objs.size+1),cy H (s.heap.objs.size+1) (.lst (ns'.map V.int)),I.laid (t':=s.toks) (fun _ _=>sortedAll_old) (Nat.le_succ _) ⟨?_,out.toList,e,oh a1,?_⟩,rfl,q _ ns' _ (ax.new hf) hf aM a2 a3⟩
  · rw [Qh,a2.length_eq]
    exact Qq (Sm h64) (by decide)
  · simpa [seqObj] using he
end
section
variable{X:Cx}
end
theorem zD{e:PH}{es:List PH}{env:Env}(h:SX e=false):PU (e::es) env=(false,PV e env)::PU es env:=by
  cases e<;>first | rfl | cases h
theorem Dx{X:Cx}{e:PH}{es:List PH}{te:TE}{t:TA}(ha:PE X e te)(hr:PA X es t)(h:SX e=false:=by rfl):PA X (e::es) (oU te t):=mP ha hr (zD h)
def yN:List (Int × Int)→TA
  | []=>B3
  | p::r=>oU (J7 (oU (tC (.int p.1)) (oU (tC (.int p.2)) B3))) (yN r)
@[irreducible] def Lv(ps:List (Int × Int)):TA:=yN ps
structure l6 where
  one:Int
  other:Int
  top:Int
  bot:Int
  worth:Int
structure aR where
  things:Int
  ties:List l6
  pat:List Int
  asks:Int
structure l6.Ok (n:Int) (t:l6):Prop where
  o0:0≤t.one
  o1:t.one < t.other
  o2:t.other < n
  c0:0≤t.top
  c1:t.top≤t.bot
  b0:1≤t.bot
  b1:t.bot≤100
  w0:0≤t.worth
  w1:t.worth≤1000
  cop:Qd t.top t.bot=1
structure aR.Ok (w:aR):Prop where
  t0:0≤w.things
  t1:w.things≤12
  ties:∀t∈w.ties,t.Ok w.things
  len:w.ties.length≤16
  pl:(w.pat.length:Int)=w.things
  pat:∀p∈w.pat,0≤p∧p≤20
  a0:0≤w.asks
  a1:w.asks≤40
def Ip(K:PF)(H:Hp)(v:V)(t:l6):Prop:=∃p q,v=.ref p∧fB K H p [.int t.one,.int t.other,.ref q,.int t.worth]∧fB K H q [.int t.top,.int t.bot]
inductive sX (K:PF) (H:Hp):List V→List l6→Prop
  | nil:sX K H [] []
  | cons {v vs t ts}:Ip K H v t→sX K H vs ts→sX K H (v::vs) (t::ts)
structure LP (K:PF) (H:Hp) (v:V) (w:aR):Prop where
  ex:∃a b c ts,v=.ref a∧fB K H a [.int w.things,.ref b,.ref c,.int w.asks]∧fB K H b ts∧sX K H ts w.ties∧fB K H c (w.pat.map V.int)
section
variable{K:PF}{H H':Hp}
end
theorem xb{t b:Int}(hb:0 < b)(h0:0≤t)(h1:t≤b)(h2:b≤100):0≤(gJ t b).1∧(gJ t b).1≤(gJ t b).2∧1≤(gJ t b).2∧(gJ t b).2≤100:=by
  obtain⟨d,e1,e2,e3,e4,e5⟩:=r9 (t:=t) (b:=b) (by lia)
  generalize (gJ t b).1=x at*
  generalize (gJ t b).2=y at*
  have dp:0 < d:=by
    rcases Int.lt_or_gt_of_ne e2 with z | z
    · exfalso
      have:y*d < 0:=Int.mul_neg_of_pos_of_neg e5 z
      lia
    · exact z
  have x0:0≤x:=by
    rcases Int.lt_or_le x 0 with z | z
    · have:x*d < 0:=Int.mul_neg_of_neg_of_pos z dp
      lia
    · exact z
  have xy:x≤y:=by
    rcases Int.lt_or_le y x with z | z
    · have:y*d < x*d:=Int.mul_lt_mul_of_pos_right z dp
      lia
    · exact z
  have yb:y≤y*d:=by
    have:=Int.mul_le_mul_of_nonneg_left (show(1:Int)≤d by lia) (show 0≤y by lia)
    lia
  exact⟨x0,xy,by lia,by lia⟩
inductive oW {α β:Type} (R:α→β→Prop):List α→List β→Prop
  | nil:oW R [] []
  | cons {a b as bs}:R a b→oW R as bs→oW R (a::as) (b::bs)
namespace oW
variable{α β:Type}{R S:α→β→Prop}
theorem mono(h:∀a b,R a b→S a b):∀{as:List α} {bs:List β},oW R as bs→oW S as bs
  | _,_,.nil=>.nil
  | _,_,.cons x r=>.cons (h _ _ x) (mono h r)
theorem len:∀{as:List α} {bs:List β},oW R as bs→as.length=bs.length
  | _,_,.nil=>rfl
  | _,_,.cons _ r=>by simp [len r]
theorem snoc{a:α}{b:β}(h:R a b):∀{as:List α} {bs:List β},oW R as bs→oW R (as++[a]) (bs++[b])
  | _,_,.nil=>.cons h .nil
  | _,_,.cons x r=>.cons x (snoc h r)
theorem get:∀{as:List α} {bs:List β} {i:Nat} {b:β},oW R as bs→bs[i]?=some b→∃a,as[i]?=some a∧R a b
  | _,_,_,_,.nil,e=>by simp at e
  | _,_,0,_,.cons x _,e=>by simp at e;subst e;exact⟨_,rfl,x⟩
  | _,_,i+1,b,.cons _ r,e=>by
    obtain⟨v,h1,h2⟩:=get (i:=i) (b:=b) r (by simpa using e)
    exact⟨v,by simpa using h1,h2⟩
end oW
section
variable{K:PF}{a l:xM}{xs:List V}{g:TG}{tc:TT}{te:TE}{Q:VK}{σ:L2.St}{H:Hp}{α β:Type}{us:List α}{cp:List (Nat × Str)}{nT:Nat}
def Kk(bj:Hp→V→β→Prop)(SI:L2.St→Prop)(us:List α)(f:α→Option β)(H:Hp)(l:xM)(i:Nat)(σ:L2.St)(H':Hp):Prop:=SI σ∧ax H H'∧∃vs,H' l=some (.lst vs)∧vs.length≤i∧oW (bj H') vs ((us.take i).filterMap f)
end
theorem oT:∀{a b:List Int},a.Perm b→a.Pairwise (· ≤·)→b.Pairwise (· ≤·)→a=b
  | [],b,p,_,_=>by
    have:=p.length_eq
    exact(List.length_eq_zero_iff.mp this.symm).symm
  | x::a,b,p,h1,h2=>by
    cases b with
    | nil=>have:=p.length_eq;simp at this
    | cons y b=>
      have h1':=List.pairwise_cons.mp h1
      have h2':=List.pairwise_cons.mp h2
      have e:x=y:=by
        have m1:y∈x::a:=p.mem_iff.mpr (by simp)
        have m2:x∈y::b:=p.mem_iff.mp (by simp)
        rcases Px m1 with z | z
        · exact z.symm
        · rcases Px m2 with z2 | z2
          · exact z2
          · have:=h1'.1 y z
            have:=h2'.1 x z2
            lia
      subst e
      rw [oT ((List.perm_cons x).mp p) h1'.2 h2'.2]
def jn(ns:List Int):List Int:=ns.mergeSort
theorem B0{ns ns':List Int}(p:ns'.Perm ns)(h:ns'.Pairwise (· ≤·)):ns'=jn ns:=by
  refine oT (p.trans (List.mergeSort_perm ns _).symm) h ?_
  have:=List.pairwise_mergeSort (le:=fun a b:Int=>decide (a≤b)) (fun a b c h1 h2=>by simp at*;lia) (fun a b=>by simp;lia) ns
  exact this.imp fun h=>by simpa using h
theorem lZ(ns:List Int):(jn ns).Perm ns:=List.mergeSort_perm ns _
theorem sI{ns:List Int}{x:Int}:x∈jn ns↔ x∈ns:=(lZ ns).mem_iff
theorem sG(ns:List Int):(jn ns).length=ns.length:=(lZ ns).length_eq
section
variable{X:Cx}{K:PF}{pos:Pos}
theorem DG{es:List PH}{k:Nat}{t:zN}{n:Nat}(hK:X.K=K)(hc:X.calm=true)(h:xS X es t)(hn:(QA es X.env).length=n:=by rfl)(hst:(QA es X.env).findIdx? (·.1)=none:=by rfl):PG X (.Tuple es k pos) (IL K n t):=hK ▸ Hb hc h hn hst
theorem DL{tg l:PH}{tl:TE}(h:X.K=K)(hl:PE X l tl):PI X tg l (IP K tl):=h ▸ Hc hl
theorem Bc{tg l:PH}{tl:TE}(h:X.K=K)(hl:PE X l tl):PI X tg l (EQ K tl):=h ▸ DK hl
end
instance:Inhabited l6:=⟨⟨0,1,1,1,0⟩⟩
def aR.tie(W:aR)(k:Int):l6:=W.ties.getD k.toNat default
def aR.has(W:aR)(k thing:Int):Bool:=(W.tie k).one==thing || (W.tie k).other==thing
def aR.many(W:aR)(asked:List Int)(thing:Int):Int:=((asked.filter fun k=>W.has k thing).length:Nat)
def aR.bears(W:aR)(asked taken:List Int)(thing:Int):Bool:= !taken.contains thing&&decide (W.many asked thing < W.pat.getD thing.toNat 0)
def aR.may(W:aR)(asked taken:List Int)(k:Int):Bool:= !(asked.contains k || decide (W.asks≤(asked.length:Int)))&&(W.bears asked taken (W.tie k).one&&W.bears asked taken (W.tie k).other)
def aR.askd(asked:List Int)(k:Int):List Int:=jn (asked++[k])
def aR.took(W:aR)(taken:List Int)(k:Int)(truth:Bool):List Int:=if truth then jn (taken++[(W.tie k).one,(W.tie k).other]) else taken
def aR.rng(W:aR):List Int:=(QM W.ties.length).map Int.ofNat
def aR.can(W:aR)(asked taken:List Int):List Int:=W.rng.filter fun k=>W.may asked taken k
def h8(W:aR)(k:Int):Prop:=0≤k∧k < (W.ties.length:Int)
theorem h8.get{W:aR}{k:Int}(h:h8 W k):W.ties[k.toNat]?=some (W.tie k):=by
  have hk:k.toNat < W.ties.length:=by have:=h.1;have:=h.2;lia
  unfold aR.tie
  rw [Ux,Rk hk];rfl
theorem h8.ok{W:aR}{k:Int}(h:h8 W k)(o:W.Ok):(W.tie k).Ok W.things:=o.ties _ (Py h.get)
theorem Ko{W:aR}{k:Int}:k∈W.rng↔ h8 W k:=by
  unfold aR.rng h8
  rw [SH]
  constructor
  · rintro⟨n,hn,rfl⟩
    have:=Sl.mp hn
    exact⟨Int.natCast_nonneg n,by simp;lia⟩
  · rintro⟨h0,h1⟩
    exact⟨k.toNat,Sl.mpr (by lia),by simp;lia⟩
def Fw(K:PF)(H:Hp)(v:V)(asked taken:List Int):Prop:=∃a b c,v=.ref a∧fB K H a [.ref b,.ref c]∧fB K H b (asked.map V.int)∧fB K H c (taken.map V.int)
theorem Fw.ts{K:PF}{H H':Hp}(s:om H H'){v:V}{asked taken:List Int}(h:Fw K H v asked taken):Fw K H' v asked taken:=by
  obtain⟨a,b,c,e,h1,h2,h3⟩:=h
  exact⟨a,b,c,e,s.tup h1,s.tup h2,s.tup h3⟩
section
variable{K:PF}{σ:L2.St}{H:Hp}{Q:VK}{i j:Nat}{vW:V}{W:aR}{k:Int}
end
def Fe(k:Int):Prop:= -1000000≤k∧k≤1000000
def Dk(n dep:Nat)(d:PD):Prop:=d.showable=true∧p_ d=true∧L2.cnt d≤n∧d.depth≤dep
theorem Dk.mono{n m dep e:Nat}{d:PD}(h:Dk n dep d)(h1:n≤m)(h2:dep≤e):Dk m e d:=⟨h.1,h.2.1,Qq h.2.2.1 h1,Qq h.2.2.2 h2⟩
theorem Dk.int{k:Int}(h:Fe k):Dk 1 2 (.int k):=by
  refine⟨?_,rfl,Qc _,by simp [QE]⟩
  show decide (k.natAbs.log2 < 1920)=true
  rw [decide_eq_true_eq]
  exact Nat.lt_trans ((show Bt 64 k by have:=h.1;have:=h.2;unfold Bt;lia).log (by decide)) (by decide)
theorem Dk.bool(b:Bool):Dk 1 2 (.bool b):=⟨rfl,rfl,Qc _,by simp [QE]⟩
theorem Dk.none:Dk 1 2 .none:=⟨rfl,rfl,Qc _,by simp [QE]⟩
theorem Dk.all{n dep:Nat}:∀{ds:List PD},(∀d∈ds,Dk n dep d)→TU ds=true∧jb ds=true∧lG ds≤ds.length*n∧RN ds≤dep
  | [],_=>⟨rfl,rfl,by simp [lG],by simp [RN]⟩
  | d::r,h=>by
    obtain⟨a1,a2,a3,a4⟩:=h d (by simp)
    obtain⟨b1,b2,b3,b4⟩:=Dk.all (ds:=r) fun x hx=>h x (by simp [hx])
    refine⟨?_,?_,?_,?_⟩
    · simp only [TU,a1,b1,Bool.and_self]
    · simp only [jb,a2,b2,Bool.and_self]
    · simp only [lG,Ro,Nat.succ_mul]
      lia
    · simp only [RN];lia
theorem Dk.tup{n dep m:Nat}{ds:List PD}(h:∀d∈ds,Dk n dep d)(hl:ds.length≤m):Dk (1+m*n) (dep+2) (.tuple ds):=by
  obtain⟨b1,b2,b3,b4⟩:=Dk.all h
  refine⟨b1,b2,?_,?_⟩
  · simp only [L2.cnt]
    have:=Uy n hl
    lia
  · simp only [QE];lia
theorem Dk.ok{n dep:Nat}{d:PD}(h:Dk n dep d)(h1:n≤8000)(h2:dep≤60):d.showable=true∧d.depth≤60∧d.shown.length≤PY:=by
  have:=sD h.2.1 h.1
  have sl:PY=16777216:=QC
  have:=h.2.2.1
  exact⟨h.1,Qq h.2.2.2 h2,by lia⟩
theorem Dk.ints{ns:List Int}{m:Nat}(hl:ns.length≤m)(h:∀r∈ns,Fe r):Dk (1+m) 4 (.tuple (ns.map .int)):=by
  have:=Dk.tup (n:=1) (dep:=2) (m:=m) (ds:=ns.map PyData.int) (fun d hd=>by
    obtain⟨x,hx,rfl⟩:=Pw hd
    exact Dk.int (h x hx)) (by rw [Qh];exact hl)
  simpa using this
section
variable{K:PF}{H:Hp}
theorem Dk.bools{ns:List Bool}{m:Nat}(hl:ns.length≤m):Dk (1+m) 4 (.tuple (ns.map .bool)):=by
  have:=Dk.tup (n:=1) (dep:=2) (m:=m) (ds:=ns.map PyData.bool) (fun d hd=>by
    obtain⟨x,hx,rfl⟩:=Pw hd
    exact Dk.bool x) (by rw [Qh];exact hl)
  simpa using this
def ci(t:l6):PD:=.tuple [.int t.one,.int t.other,.tuple [.int t.top,.int t.bot],.int t.worth]
def ao(W:aR):PD:=.tuple [.int W.things,.tuple (W.ties.map ci),.tuple (W.pat.map .int),.int W.asks]
def dB(asked taken:List Int):PD:=.tuple [.tuple (asked.map .int),.tuple (taken.map .int)]
end
theorem zW:∀{bs:List Bool} {us:List MG} {i:Nat} {v:MG},aV (bs.map V.bl) us→us[i]?=some v→∃b,bs[i]?=some b∧v=.bool b
  | [],us,i,v,r,e=>by cases r;simp at e
  | b::bs,us,i,v,r,e=>by
    cases r with
    | cons p q=>
      cases i with
      | zero=>simp at e;subst e;cases p;exact⟨b,rfl,rfl⟩
      | succ i=>
        obtain⟨c,h1,h2⟩:=zW (bs:=bs) (i:=i) (v:=v) q (by simpa using e)
        exact⟨c,by simpa using h1,h2⟩
theorem D6(bs:List Bool):((QM bs.length).all fun i=>(bs[i]?).getD true)=bs.all id:=by
  rw [TX,Qp,Qp]
  constructor
  · intro h b hb
    obtain⟨i,hi,rfl⟩:=List.getElem_of_mem hb
    have:=h i (Sl.mpr hi)
    rw [Rk hi] at this
    exact this
  · intro h i hi
    have hi':=Sl.mp hi
    rw [Rk hi']
    exact h _ (Th hi')
section
variable{X:Cx}
theorem z0{k:Nat}{K:PF}(hr:cg k X.A)(hK:X.K=K):dX X (.builtin "all") (fun xs H Q=>∃(l:xM) (bs:List Bool),xs=[.ref l]∧iJ K H l (bs.map V.bl)∧Q (.bl (bs.all id)) H):=by
  intro pins s σ H xs us Q I r h
  subst hK
  obtain⟨l,bs,rfl,hs,q⟩:=h
  obtain⟨u,rfl,ru⟩:=jK r
  cases ru
  obtain⟨its,rv,p,hz⟩:=I.list hs
  have hl:=p.isList
  have lt:l < s.heap.objs.size:=by obtain⟨_,e,_⟩:=hl;exact Qg e
  refine PySem.call_all_walk (wpAny_pyIter_list hl ?_)
  refine⟨s.heap.objs.size,[s.heap.objs.size,l],[s.heap.objs.size],its.toArray.size,_,_,fun i=>(bs[i]?).getD true,rfl,Walks.list (A:=X.A.in1) hr.hd _ l (QH lt) its.toArray,⟨⟨_,QL _ rfl,rfl,rfl⟩,hl.push _⟩,fun i v s' Q' E' hP hQ=>?_,fun h' tk hk=>?_⟩
  · obtain⟨b,e,rfl⟩:=zW rv (by simpa using hP)
    simp only [e,TV] at hQ
    exact SZ hQ
  · have e:its.toArray.size=bs.length:=by have:=rv.length;rw [Qh] at this;simpa using this.symm
    rw [e,D6]
    refine⟨.bl (bs.all id),H,I.kept fun b x e=>hk b x (fun hm=>?_) (Qs _ e),rfl,q⟩
    rw [RP.mp hm] at e
    exact RU _ (Qg e)
end
theorem zY:Rt "all"=some (.builtin "all"):=by decide+kernel
section
variable{prog:PK}{w:PJ}{A:PP}{E:MG→PB→Prop}{s:PB}
end
structure Sc (prog:PK) (w:PJ) (it l:xM) (St:Nat→PL→Prop) (Sq:PL→Array MG→Prop):Prop where
  stay:∀{k h h'},St k h→(∀o,h.get? it=some o→h'.get? it=some o)→St k h'
  live:∀{k h},St k h→∃o,h.get? it=some o∧∀v,o.data≠.cell v
  row:∀{h h' xs},Sq h xs→(∀o,h.get? l=some o→h'.get? l=some o)→Sq h' xs
  next:∀{A:PP} {s:PB} {E:MG→PB→Prop} {Q:MG→PB→Prop} {k:Nat} {xs:Array MG} {x:MG},St k s.heap→Sq s.heap xs→xs[k]?=some x→(∀g,St (k+1) g→SJ it s.heap g→Q x {s with heap:=g})→PM (PQ prog w) A (UO (.ref it)) Q E s
  last:∀{A:PP} {s:PB} {E:MG→PB→Prop} {Q:MG→PB→Prop} {k:Nat} {xs:Array MG},A.handled=none→St k s.heap→Sq s.heap xs→xs[k]?=none→(∀g e,Heap.ExtBut it s.heap g→(∃o,g.get? e=some o∧o.cls=.type "StopIteration")→E (.ref e) {s with heap:=g})→PM (PQ prog w) A (UO (.ref it)) Q E s
structure LG (z TI TO i1 i2 l1 l2:xM):Prop where
  a1:TO≠z
  a2:i1≠z
  a3:i2≠z
  a4:TO≠i1
  a5:TO≠i2
  a6:i1≠i2
  b1:l1≠z
  b2:l1≠TO
  b3:l1≠i1
  b4:l1≠i2
  c1:l2≠z
  c2:l2≠TO
  c3:l2≠i1
  c4:l2≠i2
section
variable{prog:PK}{w:PJ}{A:PP}{E:MG→PB→Prop}{s:PB}{z TI TO i1 i2 l1 l2:xM}{k:Nat}{xs ys:Array MG}{a b:MG}{S1 S2:Nat→PL→Prop}{R1 R2:PL→Array MG→Prop}
end
section
variable{X:Cx}{pins:List (xM × Obj)}{σ:L2.St}{H:Hp}{s:PB}{h':PL}
end
section
variable{prog:PK}{w:PJ}{A:PP}{E:MG→PB→Prop}{s:PB}
end
def Ft(h:PL)(z TI TO:xM)(a:xM)(f:Bool):Prop:=h.get? z=some {cls:=.type "zip",data:=.fields #[rawInt a,.bool f,.bool false,.ref TI,.ref TO]}
section
variable{prog:PK}{w:PJ}{A:PP}{E:MG→PB→Prop}{s:PB}{z TI TO i1 i2 l1 l2:xM}{k:Nat}{xs ys:Array MG}{a:xM}{f:Bool}{S1 S2:Nat→PL→Prop}{R1 R2:PL→Array MG→Prop}
end
structure ZL (S z TI TO i1 i2 l1 l2:xM) (xs ys:Array MG) (i:Nat) (h:PL):Prop where
  pr:IsPair h TI (.ref i1) (.ref i2)
  t1:h.IsTupleIter i1 l1 i
  t2:h.IsTupleIter i2 l2 i
  s1:h.IsTuple l1 xs
  s2:h.IsTuple l2 ys
  ot:∃o,h.get? TO=some o
  zs:(IsZip h z TI TO .none∧∃a b,IsPair h TO a b)∨∃a f oa,Ft h z TI TO a f∧h.get? a=some oa∧a≠S∧a≠z∧a≠i1∧a≠i2
structure LF (S z TO i1 i2:xM) (xs ys:Array MG) (h:PL) (acc:Array MG) (i:Nat):Prop where
  sz:acc.size=i
  at_:∀(j:Nat) (v:MG),acc[j]?=some v→∃(p:xM) (x y:MG),v=.ref p∧xs[j]?=some x∧ys[j]?=some y∧IsPair h p x y∧p≠S∧p≠z∧p≠TO∧p≠i1∧p≠i2
  lo:∀(j:Nat) (p:xM),acc[j]?=some (.ref p)→S < p
  Mm:∀(i j:Nat) (p q:xM),i < j→acc[i]?=some (.ref p)→acc[j]?=some (.ref q)→p < q
section
variable{prog:PK}{w:PJ}{A:PP}{R:Result→PB→Prop}{S z TI TO i1 i2 l1 l2:xM}{xs ys:Array MG}{n:Nat}
end
section
variable{X:Cx}{pins:List (xM × Obj)}{σ:L2.St}{H H':Hp}{s:PB}{h':PL}
end
section
variable{prog:PK}{w:PJ}{A:PP}{E:MG→PB→Prop}{s:PB}{e it l:xM}{k:Nat}{xs:Array MG}{S:Nat→PL→Prop}{R:PL→Array MG→Prop}
end
section
variable{X:Cx}{pins:List (xM × Obj)}{σ:L2.St}{H:Hp}{s:PB}
end
section
variable{X:Cx}{a:PH}{ta:TA}{p p2 pos pos2:Pos}
end
theorem zp:fillsNumberSlot (.type "tuple") "mul"=pure false:=
  PySem.fillsNumberSlot_seq (id:="tuple.__mul__") (r:=some (.builtin "tuple.__rmul__")) Ti.lookup (by decide+kernel) F.slot_tuple_rmul.lookup (by decide+kernel)
theorem HE:seqRepeat? (.type "tuple")=pure (some (.builtin "tuple.__mul__")):=by
  unfold seqRepeat?;rw [PySem.seqSlot_of (T:="tuple") (name:="__mul__") (id:="tuple.__mul__") Ti.lookup (by decide+kernel),PySem.seqSlot_of (T:="tuple") (name:="__rmul__") (id:="tuple.__rmul__") F.slot_tuple_rmul.lookup (by decide+kernel)];rfl
theorem D4(a:Int)(t:Tok)(l:xM)(items:Array MG)(n:Nat)(dd:Option xM)(sl:Array (Option MG)):
    Meets (Builtin.«int.__rmul__» ⟨[.int a t,.ref l],[]⟩) (fun _ R s=>s.heap.get? l=some {cls:=.type "tuple",dict:=dd,data:=.seq items n,slots:=sl}∧R (.ok (.ret Value.notImplemented)) s):=
  .of_wp fun prog w A R s h=>by obtain⟨hp,g,d,tk,os⟩:=s;obtain⟨hl,h⟩:=h;wp_walk;exact⟨_,rfl,h⟩
theorem GH(l:xM)(x:MG)(n:Nat)(k:Int)(u:Tok)(dd:Option xM)(sl:Array (Option MG))(h0:2≤k)(h1:k≤100000):
    Meets (Builtin.«tuple.__mul__» ⟨[.ref l,.int k u],[]⟩) (fun _ R s=>s.heap.get? l=some {cls:=.type "tuple",dict:=dd,data:=.seq #[x] n,slots:=sl}∧
      R (.ok (.ret (.ref s.heap.objs.size))) {s with heap:=s.heap.push {cls:=.type "tuple",data:=.seq (PX k.toNat x).toArray}}):=
  .of_wp fun prog w A R s h=>by
    obtain⟨hp,g,d,tk,os⟩:=s;obtain⟨hl,h⟩:=h
    have f1:=Uz
    have c1:¬(decide (k < -(2 ^ 63)) || decide (k≥2 ^ 63))=true:=by simp;lia
    have c2:¬((#[x]:Array MG).isEmpty || k==1)=true:=by simp;lia
    have c3:¬(decide (k≤0) || (#[x]:Array MG).isEmpty)=true:=by simp;lia
    have c4:¬(((#[x]:Array MG).size:Int)*k > (2 ^ 63 - 1) / 8):=by simp;lia
    have c5:¬UA (((#[x]:Array MG).size:Int)*k)=true:=by
      unfold UA;rw [QC];simp;lia
    wp_walk using Sy hl
    rw [if_neg c1]
    wp_walk using Sy hl
    rw [if_neg c2]
    wp_walk using Sy hl
    rw [if_neg c3]
    wp_walk using Sy hl
    rw [if_neg c4]
    show PM _ _ (if UA (((#[x]:Array MG).size:Int)*k)=true then _ else _) _ _ _
    rw [if_neg c5]
    have f0:∀(m:Nat) (acc:Array MG),SU (fun x1 x2=>x1++x2) acc (PX m #[x])=acc++(PX m x).toArray:=by
      intro m
      induction m with
      | zero=>intro acc;simp
      | succ m ih=>intro acc;rw [Sg,List.foldl_cons,ih,Sg];apply Array.toList_inj.mp;simp
    have e:SU (fun x1 x2=>x1++x2) #[] (PX k.toNat #[x])=(PX k.toNat x).toArray:=by rw [f0];simp
    show PM _ _ (SQ (SU (fun x1 x2=>x1++x2) #[] (PX k.toNat #[x])) >>= fun v=>ret v) _ _ _
    rw [e]
    unfold SQ
    refine PR (Sn ?_ (by show(PX k.toNat x).toArray.size≤PY;rw [Qj,Ur,QC];lia))
    exact Qa ⟨_,rfl,h⟩
theorem C_(l:xM)(x:MG)(n:Nat)(u:Tok)(dd:Option xM)(sl:Array (Option MG)):
    Meets (Builtin.«tuple.__mul__» ⟨[.ref l,.int 0 u],[]⟩) (fun _ R s=>s.heap.get? l=some {cls:=.type "tuple",dict:=dd,data:=.seq #[x] n,slots:=sl}∧R (.ok (.ret (.ref s.heap.objs.size))) {s with heap:=s.heap.push {cls:=.type "tuple",data:=.seq #[]}}):=
  .of_wp fun prog w A R s h=>by
    obtain⟨hp,g,d,tk,os⟩:=s;obtain⟨hl,h⟩:=h;have f1:=Uz
    have c2:¬((#[x]:Array MG).isEmpty || (0:Int)==1)=true:=by simp
    wp_walk using Sy hl
    first | rw [if_neg c2] | skip
    wp_walk using Sy hl
    exact⟨_,rfl,h⟩
theorem C'(l:xM)(x:MG)(n:Nat)(u:Tok)(dd:Option xM)(sl:Array (Option MG)):
    Meets (Builtin.«tuple.__mul__» ⟨[.ref l,.int 1 u],[]⟩) (fun _ R s=>s.heap.get? l=some {cls:=.type "tuple",dict:=dd,data:=.seq #[x] n,slots:=sl}∧R (.ok (.ret (.ref l))) s):=
  .of_wp fun prog w A R s h=>by
    obtain⟨hp,g,d,tk,os⟩:=s;obtain⟨hl,h⟩:=h;have f1:=Uz
    wp_walk using Sy hl
    exact⟨_,rfl,h⟩
section
variable{X:Cx}
def BB(K:PF):R2:=fun x y H Q=>∃a k v,x=.ref a∧y=.int k∧fB K H a [v]∧0≤k∧k≤100000∧∀p H',ax H H'→fB K H' p (PX k.toNat v)→Q (.ref p) H'
theorem Dw:iH X (Qt .Mult) (BB X.K):=by
  intro pins s σ H x y v u Q I rx ry h
  obtain⟨a,k,z,rfl,rfl,ha,k0,k1,q⟩:=h
  cases rx
  obtain⟨t,rfl⟩:=ry
  obtain⟨its,r,p,hz⟩:=I.tuple ha
  obtain⟨uz,rfl,rz⟩:=jK r
  obtain⟨⟨cls,dd,data,sl⟩,ho,hc,n,hd⟩:=id p
  simp only at hc hd
  subst hc hd
  refine wpAny_binaryOp_repeat_ref (T:="tuple") (U:="int") (by decide) ⟨_,ho,rfl⟩ (fun s'=>Tf s' k t) zp F.fills_int_mul TK HE F.slot_int_index.lookup (RD TK (Tf s k t) F.entry_int_rmul (F.args_int_rmul_2 _ _) (D4 k t a #[uz] n dd sl) ⟨ho,rfl,⟨_,ho,rfl⟩,?_⟩)
  have new:∀m:Nat,m=k.toNat→EP X pins σ Q (.ref s.heap.objs.size) {s with heap:=s.heap.push {cls:=.type "tuple",data:=.seq (PX m uz).toArray},toks:=s.toks}:=fun m hm=>by
    have hf:H s.heap.objs.size=none:=I.hok.fresh (Qc _)
    have vv:∀j:Nat,aV (PX j z) (PX j uz):=fun j=>by
      induction j with
      | zero=>exact .nil
      | succ j ih=>exact .cons rz ih
    refine⟨.ref s.heap.objs.size,_,I.laid (t':=s.toks) (o:=.tup (PX m z)) (fun b ob q=>Qs _ q) (Qc _) ⟨by rw [Ur,QC];lia,_,vv m,sW.new _ _⟩,rfl,q _ _ (ax.new hf) (fB.of (by rw [aM,hm]))⟩
  rcases(by lia:k=0∨k=1∨2≤k) with e | e | e
  · subst e
    exact RD Ti ⟨_,ho,rfl⟩ F.entry_tuple_mul (F.args_tuple_mul_2 _ _) (C_ a uz n t dd sl) ⟨ho,new 0 rfl⟩
  · subst e
    exact RD Ti ⟨_,ho,rfl⟩ F.entry_tuple_mul (F.args_tuple_mul_2 _ _) (C' a uz n t dd sl) ⟨ho,⟨.ref a,H,I,rfl,q a H (ax.refl H) ha⟩⟩
  · exact RD Ti ⟨_,ho,rfl⟩ F.entry_tuple_mul (F.args_tuple_mul_2 _ _) (GH a uz n k t dd sl e k1) ⟨ho,new _ rfl⟩
end
section
variable{prog:PK}{w:PJ}{A:PP}{E:MG→PB→Prop}{s:PB}
end
section
variable{X:Cx}{a:PH}{ta:TA}{p p2 p3 pos pos2 pos3:Pos}
end
section
variable{prog:PK}{w:PJ}{A:PP}{E:MG→PB→Prop}{s:PB}
end
section
variable{X:Cx}{K:PF}{es:List PH}{k0:Nat}{tp:Pos}{a:PH}{ta:TA}{p pos:Pos}
end
theorem zv{X:Cx}:iH X (QB .IsNot) (fun x y H Q=>∃b c,x=.bl b∧y=.bl c∧Q (.bl (!(b==c))) H):=by
  intro pins s σ H x y v u Q I rx ry h
  obtain⟨b,c,rfl,rfl,q⟩:=h
  cases rx;cases ry
  refine wpAny_isNot_plain (by cases b<;>cases c<;>rfl) ⟨.bl (!(b==c)),H,I,?_,q⟩
  show Value.bool _=Value.bool _
  cases b<;>cases c<;>rfl
section
variable{prog:PK}{w:PJ}{A:PP}{E:MG→PB→Prop}{s:PB}
end
section
variable{prog:PK}{w:PJ}{A:PP}{E:MG→PB→Prop}{s:PB}
end
section
variable{prog:PK}{w:PJ}{A:PP}{E:MG→PB→Prop}{s:PB}
end
inductive ww where
  | vi (k:Int)
  | vb (x:Bool)
  | vn
  | vp (a:xM) (p q:Int)
def ww.toV:ww→V
  | .vi k=>.int k
  | .vb x=>.bl x
  | .vn=>.non
  | .vp a _ _=>.ref a
def ww.toD:ww→PD
  | .vi k=>.int k
  | .vb x=>.bool x
  | .vn=>.none
  | .vp _ p q=>.tuple [.int p,.int q]
def ww.ok(K:PF)(F:Hp):ww→Prop
  | .vp a p q=>fB K F a [.int p,.int q]
  | _=>True
theorem ww.ok.mono{K:PF}{F F':Hp}(h:ax F F'){a:ww}(q:a.ok K F):a.ok K F':=by
  cases a<;>first | exact h.tup q | trivial
mutual
def DA(K:PF)(F:Hp):PD→V→Prop
  | .none,v=>v=.non
  | .bool b,v=>v=.bl b
  | .int i,v=>v=.int i
  | .str x,v=>v=.str x
  | .tuple ds,v=>∃a xs,v=.ref a∧fB K F a xs∧aT K F ds xs
  | .list ds,v=>∃a xs,v=.ref a∧iJ K F a xs∧aT K F ds xs
  | .dict kvs,v=>∃(a:xM) (m:List (Int × ww)),v=.ref a∧F a=some (.dK (m.map fun p=>(Sum.inl p.1,p.2.toV)))∧kvs=m.map (fun p=>(PyData.int p.1,p.2.toD))∧∀p∈m,p.2.ok K F
def aT(K:PF)(F:Hp):List PD→List V→Prop
  | [],xs=>xs=[]
  | d::ds,xs=>∃x r,xs=x::r∧DA K F d x∧aT K F ds r
end
mutual
theorem DA.mono{K:PF}{F F':Hp}(h:ax F F'):∀{d:PD} {v:V},DA K F d v→DA K F' d v
  | .none,_,q=>by simp only [DA] at q ⊢;exact q
  | .bool b,_,q=>by simp only [DA] at q ⊢;exact q
  | .int i,_,q=>by simp only [DA] at q ⊢;exact q
  | .str x,_,q=>by simp only [DA] at q ⊢;exact q
  | .tuple ds,_,q=>by
    simp only [DA] at q ⊢
    obtain⟨a,xs,e,s,r⟩:=q
    exact⟨a,xs,e,h.tup s,aT.mono h r⟩
  | .list ds,_,q=>by
    simp only [DA] at q ⊢
    obtain⟨a,xs,e,s,r⟩:=q
    exact⟨a,xs,e,h.seq s,aT.mono h r⟩
  | .dict _,_,q=>by
    simp only [DA] at q ⊢
    obtain⟨a,m,e,s,k,o⟩:=q
    exact⟨a,m,e,h _ _ s,k,fun p hp=>(o p hp).mono h⟩
theorem aT.mono{K:PF}{F F':Hp}(h:ax F F'):∀{ds:List PD} {xs:List V},aT K F ds xs→aT K F' ds xs
  | [],_,q=>by simp only [aT] at q ⊢;exact q
  | d::ds,_,q=>by
    simp only [aT] at q ⊢
    obtain⟨x,r,e,a,b⟩:=q
    exact⟨x,r,e,DA.mono h a,aT.mono h b⟩
end
section
variable{K:PF}{F:Hp}
theorem aT.len:∀{ds:List PD} {xs:List V},aT K F ds xs→ds.length=xs.length
  | [],_,q=>by simp only [aT] at q;subst q;rfl
  | d::ds,_,q=>by
    simp only [aT] at q
    obtain⟨x,r,e,a,b⟩:=q
    subst e
    simp [aT.len b]
theorem aT.get:∀{ds:List PD} {xs:List V} {i:Nat} {d:PD},aT K F ds xs→ds[i]?=some d→∃v,xs[i]?=some v∧DA K F d v
  | [],_,_,_,_,h=>by simp at h
  | d::ds,_,i,d',q,h=>by
    simp only [aT] at q
    obtain⟨x,r,e,a,b⟩:=q
    subst e
    cases i with
    | zero=>simp at h;subst h;exact⟨x,rfl,a⟩
    | succ i=>
      obtain⟨v,h1,h2⟩:=aT.get (i:=i) b (by simpa using h)
      exact⟨v,by simpa using h1,h2⟩
theorem aT.append:∀{ds es:List PD} {xs ys:List V},aT K F ds xs→aT K F es ys→aT K F (ds++es) (xs++ys)
  | [],_,_,_,q,s=>by simp only [aT] at q;subst q;simpa using s
  | d::ds,es,_,ys,q,s=>by
    simp only [aT] at q
    obtain⟨x,r,e,a,b⟩:=q
    subst e
    simp only [RQ,aT]
    exact⟨x,_,rfl,a,aT.append b s⟩
theorem aT.one{d:PD}{v:V}(h:DA K F d v):aT K F [d] [v]:=by simp only [aT];exact⟨_,_,rfl,h,rfl⟩
theorem aT.nil:aT K F [] []:=by simp only [aT]
theorem aT.cons{d:PD}{v:V}{ds:List PD}{vs:List V}(h:DA K F d v)(r:aT K F ds vs):aT K F (d::ds) (v::vs):=by simp only [aT];exact⟨_,_,rfl,h,r⟩
theorem aT.drop:∀{ds:List PD} {xs:List V} (n:Nat),aT K F ds xs→aT K F (ds.drop n) (xs.drop n)
  | _,_,0,q=>q
  | [],_,n+1,q=>by simp only [aT] at q;subst q;exact aT.nil
  | d::ds,_,n+1,q=>by
    simp only [aT] at q
    obtain⟨x,r,e,a,b⟩:=q
    subst e
    simpa using aT.drop n b
theorem aT.take:∀{ds:List PD} {xs:List V} (n:Nat),aT K F ds xs→aT K F (ds.take n) (xs.take n)
  | _,_,0,q=>by simpa using aT.nil
  | [],_,n+1,q=>by simp only [aT] at q;subst q;exact aT.nil
  | d::ds,_,n+1,q=>by
    simp only [aT] at q
    obtain⟨x,r,e,a,b⟩:=q
    subst e
    simpa using aT.cons a (aT.take n b)
theorem aT.set{d:PD}{v:V}(h:DA K F d v):∀{ds:List PD} {xs:List V} (n:Nat),aT K F ds xs→aT K F (ds.set n d) (xs.set n v)
  | [],_,_,q=>by simp only [aT] at q;subst q;exact aT.nil
  | e::ds,_,n,q=>by
    simp only [aT] at q
    obtain⟨x,r,e,a,b⟩:=q
    subst e
    cases n with
    | zero=>exact aT.cons h b
    | succ n=>exact aT.cons a (aT.set h n b)
theorem aT.erase:∀{ds:List PD} {xs:List V} (n:Nat),aT K F ds xs→aT K F (ds.eraseIdx n) (xs.eraseIdx n)
  | [],_,_,q=>by simp only [aT] at q;subst q;exact aT.nil
  | e::ds,_,n,q=>by
    simp only [aT] at q
    obtain⟨x,r,e,a,b⟩:=q
    subst e
    cases n with
    | zero=>exact b
    | succ n=>exact aT.cons a (aT.erase n b)
theorem aT.ints:∀{ns:List Int} {xs:List V},aT K F (ns.map .int) xs↔ xs=ns.map V.int
  | [],xs=>by simp [aT]
  | n::ns,xs=>by
    simp only [Qk,aT,DA]
    constructor
    · rintro⟨x,r,e,rfl,q⟩;rw [e,aT.ints.mp q]
    · rintro rfl;exact⟨_,_,rfl,rfl,aT.ints.mpr rfl⟩
theorem aT.bools:∀{ns:List Bool} {xs:List V},aT K F (ns.map .bool) xs↔ xs=ns.map V.bl
  | [],xs=>by simp [aT]
  | n::ns,xs=>by
    simp only [Qk,aT,DA]
    constructor
    · rintro⟨x,r,e,rfl,q⟩;rw [e,aT.bools.mp q]
    · rintro rfl;exact⟨_,_,rfl,rfl,aT.bools.mpr rfl⟩
theorem cA{i:Int}{v:V}:DA K F (.int i) v↔ v=.int i:=by simp only [DA]
theorem ef{b:Bool}{v:V}:DA K F (.bool b) v↔ v=.bl b:=by simp only [DA]
theorem gW{v:V}:DA K F .none v↔ v=.non:=by simp only [DA]
theorem jy{x:Str}{v:V}:DA K F (.str x) v↔ v=.str x:=by simp only [DA]
theorem eC{ds:List PD}{v:V}:DA K F (.tuple ds) v↔ ∃a xs,v=.ref a∧fB K F a xs∧aT K F ds xs:=by simp only [DA]
theorem gF{ds:List PD}{v:V}:DA K F (.list ds) v↔ ∃a xs,v=.ref a∧iJ K F a xs∧aT K F ds xs:=by simp only [DA]
end
inductive Sv where
  | d (x:PD)
  | l (xs:List PD)
  /-- a list of lists that nobody else holds -/
  | n (xss:List (List PD))
abbrev En:=List (Option Sv)
inductive Rv where
  | d (x:PD)
  | l (xs:List PD)
  | s (i:Nat)
def Fp(σ:L2.St)(e:En)(H:Hp)(i:Nat)(a:xM):Prop:=(∃xs:List PD,e[i]?=some (some (Sv.l xs))∧σ[i]?=some (some (.ref a)))∨
  ∃(xss:List (List PD)) (l:xM) (bs:List xM),e[i]?=some (some (Sv.n xss))∧σ[i]?=some (some (.ref l))∧H l=some (.lst (bs.map V.ref))∧(a=l∨a∈bs)
def cj(σ:L2.St)(e:En)(H:Hp)(a:xM):Prop:=∃i,Fp σ e H i a
structure bj (K:PF) (F H:Hp) (σ:L2.St) (e:En):Prop where
  sm:ax F H
  len:σ.length=e.length
  dat:∀(i:Nat) (x:PD),e[i]?=some (some (.d x))→∃v,σ[i]?=some (some v)∧DA K F x v
  own:∀(i:Nat) (xs:List PD),e[i]?=some (some (.l xs))→∃l vs,σ[i]?=some (some (.ref l))∧F l=none∧H l=some (.lst vs)∧aT K F xs vs
  nst:∀(i:Nat) (xss:List (List PD)),e[i]?=some (some (.n xss))→∃(l:xM) (bs:List xM),σ[i]?=some (some (.ref l))∧F l=none∧H l=some (.lst (bs.map V.ref))∧bs.length=xss.length∧bs.Nodup∧l∉bs∧
    ∀(k:Nat) (b:xM) (ys:List PD),bs[k]?=some b→xss[k]?=some ys→F b=none∧∃us,H b=some (.lst us)∧aT K F ys us
  fp:∀(i j:Nat) (a:xM),Fp σ e H i a→Fp σ e H j a→i=j
theorem bj.inj{K:PF}{F H:Hp}{σ:L2.St}{e:En}(R:bj K F H σ e)(i j:Nat)(xs ys:List PD)(l:xM)(h1:e[i]?=some (some (.l xs)))(h2:e[j]?=some (some (.l ys)))(h3:σ[i]?=some (some (.ref l)))(h4:σ[j]?=some (some (.ref l))):i=j:=R.fp i j l (.inl ⟨xs,h1,h3⟩) (.inl ⟨ys,h2,h4⟩)
theorem bj.fpAt{K:PF}{F H:Hp}{σ:L2.St}{e:En}(R:bj K F H σ e){i:Nat}{a:xM}(h:Fp σ e H i a):F a=none∧∃vs,H a=some (.lst vs):=by
  rcases h with ⟨xs,h1,h2⟩ | ⟨xss,l,bs,h1,h2,h3,h4⟩
  · obtain⟨l,vs,g1,g2,g3,_⟩:=R.own i xs h1
    rw [h2] at g1;cases g1
    exact⟨g2,vs,g3⟩
  · obtain⟨l',bs',g1,g2,g3,g4,g5,g6,g7⟩:=R.nst i xss h1
    rw [h2] at g1;cases g1
    rw [h3] at g3
    have e1:bs=bs':=by
      have:=HO.lst.inj (QO g3)
      exact List.map_inj_right (fun _ _ z=>V.ref.inj z) |>.mp this
    subst e1
    rcases h4 with rfl | h4
    · exact⟨g2,_,h3⟩
    · obtain⟨k,hk⟩:=SY h4
      have hk2:k < xss.length:=by rw [←g4];exact(Pu hk).1
      obtain⟨c1,us,c2,_⟩:=g7 k a xss[k] hk (Rk hk2)
      exact⟨c1,us,c2⟩
def ER:HO→Bool
  | .dK _=>true
  | .ins _ _ _=>true
  | _=>false
abbrev DI:={o:HO // ER o=true}
structure dY (σ:L2.St) (F H:Hp) (e:En) (F' H':Hp) (e':En):Prop where
  sf:ax F F'
  dom:∀a,H' a=none→H a=none
  fr:∀a vs,F a=none→H a=some (.lst vs)→¬cj σ e H a→F' a=none
  lst:∀a vs,H a=some (.lst vs)→∃vs',H' a=some (.lst vs')
  tmp:∀a o,H a=some o→¬cj σ e H a→H' a=some o
  shp:∀i:Nat,(∃xs,e'[i]?=some (some (.l xs)))↔ (∃xs,e[i]?=some (some (.l xs)))
  ow:∀a,cj σ e' H' a→cj σ e H a∨H a=none
  fd:∀a (m:DI),F a=none→H a=some m.1→¬cj σ e H a→F' a=none
theorem dY.refl(σ:L2.St)(F H:Hp)(e:En):dY σ F H e F H e:=⟨ax.refl _,fun _ h=>h,fun _ _ h _ _=>h,fun _ vs h=>⟨vs,h⟩,fun _ _ h _=>h,fun _=>Iff.rfl,fun _ h=>.inl h,fun _ _ h _ _=>h⟩
theorem dY.trans{σ:L2.St}{F H F1 H1 F2 H2:Hp}{e e1 e2:En}(x:dY σ F H e F1 H1 e1)(y:dY σ F1 H1 e1 F2 H2 e2):dY σ F H e F2 H2 e2:=
  ⟨x.sf.trans y.sf,fun a h=>x.dom a (y.dom a h),fun a vs h n no=>let ⟨vs',q⟩:=x.lst a vs n;y.fr a vs' (x.fr a vs h n no) q (fun z=>(x.ow a z).elim no fun z=>by rw [n] at z;cases z),fun a vs h=>let ⟨vs',q⟩:=x.lst a vs h;y.lst a vs' q,
    fun a o h n=>y.tmp a o (x.tmp a o h n) (fun z=>(x.ow a z).elim n fun z=>by rw [h] at z;cases z),fun i=>(y.shp i).trans (x.shp i),fun a h=>(y.ow a h).elim (x.ow a) fun z=>.inr (x.dom a z),fun a m h n no=>y.fd a m (x.fd a m h n no) (x.tmp a _ n no) (fun z=>(x.ow a z).elim no fun z=>by rw [n] at z;cases z)⟩
def cK(K:PF)(σ:L2.St)(H0 F H:Hp)(e:En):Rv→V→Prop
  | .d x,v=>DA K F x v
  | .l xs,v=>∃l vs,v=.ref l∧H0 l=none∧F l=none∧H l=some (.lst vs)∧aT K F xs vs∧¬cj σ e H l
  | .s i,v=>σ[i]?=some (some v)∧∃xs,e[i]?=some (some (.l xs))
section
variable{K:PF}{σ:L2.St}{H0 F H F' H':Hp}{e e':En}{r:Rv}{v:V}
theorem cK.ext(h:cK K σ H0 F H e r v)(x:dY σ F H e F' H' e'):cK K σ H0 F' H' e' r v:=by
  cases r with
  | d y=>exact DA.mono x.sf h
  | l xs=>
    obtain⟨l,vs,e1,h1,h2,h3,h4,h5⟩:=h
    exact⟨l,vs,e1,h1,x.fr l _ h2 h3 h5,x.tmp l _ h3 h5,aT.mono x.sf h4,fun z=>(x.ow l z).elim h5 fun z=>by rw [h3] at z;cases z⟩
  | s i=>exact⟨h.1,(x.shp i).mpr h.2⟩
theorem cK.weak{H1:Hp}(h:cK K σ H1 F H e r v)(d:∀a,H1 a=none→H0 a=none):cK K σ H0 F H e r v:=by
  cases r with
  | d y=>exact h
  | l xs=>
    obtain⟨l,vs,e1,h1,r⟩:=h
    exact⟨l,vs,e1,d l h1,r⟩
  | s i=>exact h
theorem bj.ownH(R:bj K F H σ e)(a:xM)(h:cj σ e H a):H a≠none:=by
  obtain⟨i,h⟩:=h
  obtain⟨_,vs,h2⟩:=R.fpAt h
  rw [h2];simp
theorem bj.freeF(R:bj K F H σ e){p:xM}(hp:H p=none):F p=none:=R.sm.free hp
theorem CH(R:bj K F H σ e)(h:∀l bs,H l=some (.lst bs)→cj σ e H l→H' l=some (.lst bs)){i:Nat}{a:xM}:Fp σ e H' i a↔ Fp σ e H i a:=by
  have key:∀xss l,e[i]?=some (some (.n xss))→σ[i]?=some (some (.ref l))→H' l=H l:=fun xss l h1 h2=>by
    obtain⟨l',bs,g1,g2,g3,_⟩:=R.nst i xss h1
    rw [h2] at g1;cases g1
    rw [g3]
    exact h l _ g3 ⟨i,.inr ⟨xss,l,bs,h1,h2,g3,.inl rfl⟩⟩
  constructor
  · rintro(h1 | ⟨xss,l,bs,h1,h2,h3,h4⟩)
    · exact .inl h1
    · exact .inr ⟨xss,l,bs,h1,h2,by rw [←key xss l h1 h2];exact h3,h4⟩
  · rintro(h1 | ⟨xss,l,bs,h1,h2,h3,h4⟩)
    · exact .inl h1
    · exact .inr ⟨xss,l,bs,h1,h2,by rw [key xss l h1 h2];exact h3,h4⟩
theorem bj.keep(R:bj K F H σ e)(sF:ax F F')(sm:ax F' H')(hf:∀a,cj σ e H a→F' a=none)(hh:∀a o,cj σ e H a→H a=some o→H' a=some o):bj K F' H' σ e∧∀a,cj σ e H' a↔ cj σ e H a:=by
  have fs:∀{i a},Fp σ e H' i a↔ Fp σ e H i a:=fun{i a}=>CH R fun l bs h1 h2=>hh l _ h2 h1
  refine⟨⟨sm,R.len,fun i x h=>let ⟨v,h1,h2⟩:=R.dat i x h;⟨v,h1,DA.mono sF h2⟩,fun i xs h=>?_,fun i xss h=>?_,fun i j a h1 h2=>R.fp i j a (fs.mp h1) (fs.mp h2)⟩,fun a=>⟨fun⟨i,h⟩=>⟨i,fs.mp h⟩,fun⟨i,h⟩=>⟨i,fs.mpr h⟩⟩⟩
  · obtain⟨l,vs,h1,h2,h3,h4⟩:=R.own i xs h
    have o:cj σ e H l:=⟨i,.inl ⟨xs,h,h1⟩⟩
    exact⟨l,vs,h1,hf l o,hh l _ o h3,h4.mono sF⟩
  · obtain⟨l,bs,h1,h2,h3,h4,h5,h6,h7⟩:=R.nst i xss h
    have o:cj σ e H l:=⟨i,.inr ⟨xss,l,bs,h,h1,h3,.inl rfl⟩⟩
    refine⟨l,bs,h1,hf l o,hh l _ o h3,h4,h5,h6,fun k b ys g1 g2=>?_⟩
    obtain⟨c1,us,c2,c3⟩:=h7 k b ys g1 g2
    have ob:cj σ e H b:=⟨i,.inr ⟨xss,l,bs,h,h1,h3,.inr (Py g1)⟩⟩
    exact⟨hf b ob,us,hh b _ ob c2,c3.mono sF⟩
theorem bj.same(R:bj K F H σ e)(s:ax H H'):bj K F H' σ e∧dY σ F H e F H' e:=by
  obtain⟨R',o'⟩:=R.keep (ax.refl F) (R.sm.trans s) (fun a ⟨i,h⟩=>(R.fpAt h).1) fun a o _ h=>s a o h
  exact⟨R',⟨ax.refl _,fun a h=>s.free h,fun _ _ h _ _=>h,fun a vs h=>⟨vs,s _ _ h⟩,fun a o h _=>s a o h,fun _=>Iff.rfl,fun a h=>.inl ((o' a).mp h),fun _ _ h _ _=>h⟩⟩
theorem bj.freeze(R:bj K F H σ e){p:xM}{o:HO}(hF:F p=none)(hp:H p=some o)(hn:¬cj σ e H p):bj K (cy F p o) H σ e∧ax F (cy F p o):=by
  have sF:ax F (cy F p o):=ax.new hF
  refine⟨(R.keep sF (fun b u q=>?_) (fun a ha=>?_) fun _ _ _ h=>h).1,sF⟩
  · by_cases z:b=p
    · subst z;rw [aM] at q;cases q;exact hp
    · rw [aY z] at q;exact R.sm _ _ q
  · obtain⟨i,hi⟩:=ha
    have z:a≠p:=fun z=>hn ⟨i,by rw [←z];exact hi⟩
    rw [aY z];exact(R.fpAt hi).1
theorem bj.notOwn(R:bj K F H σ e){p:xM}{o:HO}(hp:H p=some o)(hl:∀vs,o≠.lst vs):¬cj σ e H p:=fun⟨i,h⟩=>by
  obtain⟨_,vs,g⟩:=R.fpAt h
  rw [hp] at g;cases g
  exact hl _ rfl
theorem bj.newT(R:bj K F H σ e){p:xM}{vs:List V}(hp:H p=none):bj K (cy F p (.tup vs)) (cy H p (.tup vs)) σ e∧dY σ F H e (cy F p (.tup vs)) (cy H p (.tup vs)) e:=by
  have hF:=R.freeF hp
  obtain⟨R1,X1⟩:=R.same (ax.new hp (o:=.tup vs))
  obtain⟨R2,s2⟩:=R1.freeze (p:=p) hF aM (R1.notOwn aM (fun _ z=>nomatch z))
  refine⟨R2,⟨s2,X1.dom,fun a ws h n _=>?_,X1.lst,X1.tmp,X1.shp,X1.ow,fun a ws h n _=>?_⟩⟩
  all_goals
    have z:a≠p:=fun z=>by rw [z,hp] at n;cases n
    rw [aY z];exact h
theorem bj.sameOwn(R:bj K F H σ e)(s:ax H H')(a:xM):cj σ e H' a↔ cj σ e H a:=(R.keep (ax.refl F) (R.sm.trans s) (fun a ⟨i,h⟩=>(R.fpAt h).1) fun a o _ h=>s a o h).2 a
theorem bj.newL(R:bj K F H σ e){p:xM}{vs:List V}(hp:H p=none):bj K F (cy H p (.lst vs)) σ e∧dY σ F H e F (cy H p (.lst vs)) e∧F p=none∧¬cj σ e (cy H p (.lst vs)) p:=
  ⟨(R.same (ax.new hp)).1,(R.same (ax.new hp)).2,R.freeF hp,fun z=>R.ownH p ((R.sameOwn (ax.new hp) p).mp z) hp⟩
theorem bj.growT(R:bj K F H σ e){p:xM}{xs:List V}(s:ax H H')(hp:fB K H' p xs):∃F',bj K F' H' σ e∧dY σ F H e F' H' e∧fB K F' p xs:=by
  obtain⟨R1,X1⟩:=R.same s
  rcases hp with hp | hp
  · have key:∀o,H' p=some o→(∀vs,o≠.lst vs)→(∀m:DI,o≠m.1)→(∀G:Hp,G p=some o→Rd G p (.tup xs))→∃F',bj K F' H' σ e∧dY σ F H e F' H' e∧fB K F' p xs:=by
      intro o ho hl hm hr
      cases q:F p with
      | some u=>
        have:=R1.sm _ _ q
        rw [ho] at this;cases this
        exact⟨F,R1,X1,.inl (hr F q)⟩
      | none=>
        obtain⟨R2,s2⟩:=R1.freeze q ho (R1.notOwn ho hl)
        refine⟨_,R2,⟨s2,X1.dom,fun a ws h n _=>?_,X1.lst,X1.tmp,X1.shp,X1.ow,fun a ws h n _=>?_⟩,.inl (hr _ aM)⟩
        · have z:a≠p:=fun z=>by rw [z] at n;rw [s _ _ n] at ho;cases ho;exact hl _ rfl
          rw [aY z];exact h
        · have z:a≠p:=fun z=>by rw [z] at n;rw [s _ _ n] at ho;cases ho;exact hm _ rfl
          rw [aY z];exact h
    rcases hp with hp | ⟨ob,hp⟩
    · exact key _ hp (fun _ z=>nomatch z) (fun m z=>nomatch z ▸ m.2) fun G g=>.inl g
    · exact key _ hp (fun _ z=>nomatch z) (fun m z=>nomatch z ▸ m.2) fun G g=>.inr ⟨ob,g⟩
  · exact⟨F,R1,X1,.inr hp⟩
theorem cK.frozen(R:bj K F H σ e){xs:List PD}(h:cK K σ H0 F H e (.l xs) v):∃F',bj K F' H σ e∧ax F F'∧DA K F' (.list xs) v∧(∀a,F a=none→H0 a≠none→F' a=none):=by
  obtain⟨l,vs,rfl,h1,h2,h3,h4,h5⟩:=h
  obtain⟨R2,s2⟩:=R.freeze h2 h3 h5
  refine⟨_,R2,s2,?_,fun a ha hn=>?_⟩
  · rw [gF]
    exact⟨l,vs,rfl,.inl (.inl aM),aT.mono s2 h4⟩
  · have z:a≠l:=fun z=>hn (by rw [z];exact h1)
    rw [aY z];exact ha
def cU(e:En):Rv→Option (Bool × List PD)
  | .d (.tuple xs)=>some (false,xs)
  | .d (.list xs)=>some (true,xs)
  | .l xs=>some (true,xs)
  | .s i=>match e[i]? with
    | some (some (.l xs))=>some (true,xs)
    | _=>none
  | _=>none
theorem cV(R:bj K F H σ e)(h:cK K σ H0 F H e r v){b:Bool}{xs:List PD}(q:cU e r=some (b,xs)):
    ∃p vs,v=.ref p∧aT K F xs vs∧(if b=true then iJ K H p vs else fB K H p vs):=by
  cases r with
  | d x=>
    cases x with
    | tuple ds=>
      cases q
      obtain⟨a,ys,e1,e2,e3⟩:=eC.mp h
      exact⟨a,ys,e1,e3,R.sm.tup e2⟩
    | list ds=>
      cases q
      obtain⟨a,ys,e1,e2,e3⟩:=gF.mp h
      exact⟨a,ys,e1,e3,R.sm.seq e2⟩
    | _=>cases q
  | l ys=>
    cases q
    obtain⟨l,vs,e1,h1,h2,h3,h4,_⟩:=h
    exact⟨l,vs,e1,h4,.inl (.inl h3)⟩
  | s i=>
    obtain⟨h1,ys,h2⟩:=h
    simp only [cU,h2] at q
    cases q
    obtain⟨l,vs,e1,e2,e3,e4⟩:=R.own i _ h2
    rw [h1] at e1;cases e1
    exact⟨l,vs,rfl,e4,.inl (.inl e3)⟩
end
abbrev FE:=En→Option (Rv × En)
abbrev FT:=En→Option (Bool × En)
abbrev FA:=En→Option (List Rv × En)
def eF(K:PF)(σ:L2.St)(H0 F H:Hp)(e:En):List Rv→List V→Prop
  | [],vs=>vs=[]
  | r::rs,vs=>∃v ws,vs=v::ws∧cK K σ H0 F H e r v∧eF K σ H0 F H e rs ws
def fE(K:PF)(f:FE):TE:=fun σ H Q=>∃F e r e',bj K F H σ e∧f e=some (r,e')∧∀F' H' v,dY σ F H e F' H' e'→bj K F' H' σ e'→cK K σ H F' H' e' r v→Q v H'
def fT(K:PF)(f:FT):TT:=fun σ H Q=>∃F e b e',bj K F H σ e∧f e=some (b,e')∧∀F' H',dY σ F H e F' H' e'→bj K F' H' σ e'→Q b H'
def fA(K:PF)(f:FA):TA:=fun σ H Q=>∃F e rs e',bj K F H σ e∧f e=some (rs,e')∧∀F' H' vs,dY σ F H e F' H' e'→bj K F' H' σ e'→eF K σ H F' H' e' rs vs→Q vs H'
theorem PE.mono{X:Cx}{e:PH}{t t':TE}(h:PE X e t)(m:∀σ H Q,t' σ H Q→t σ H Q):PE X e t':=fun pins s σ H Q I q=>h pins s σ H Q I (m σ H Q q)
theorem PT.mono{X:Cx}{e:PH}{t t':TT}(h:PT X e t)(m:∀σ H Q,t' σ H Q→t σ H Q):PT X e t':=fun pins s σ H Q I q=>h pins s σ H Q I (m σ H Q q)
theorem PW.mono{X:Cx}{e:PH}{t t':TT}(h:PW X e t)(m:∀σ H Q,t' σ H Q→t σ H Q):PW X e t':=fun wh pins s σ H Q I q=>h wh pins s σ H Q I (m σ H Q q)
theorem PA.mono{X:Cx}{es:List PH}{t t':TA}(h:PA X es t)(m:∀σ H Q,t' σ H Q→t σ H Q):PA X es t':=fun pos pins s σ H Q I q=>h pos pins s σ H Q I (m σ H Q q)
section
variable{K:PF}{σ:L2.St}{H0 F H F' H':Hp}{e e':En}
theorem eF.weak{H1:Hp}(d:∀a,H1 a=none→H0 a=none):∀{rs:List Rv} {vs:List V},eF K σ H1 F H e rs vs→eF K σ H0 F H e rs vs
  | [],_,h=>h
  | r::rs,_,h=>by
    obtain⟨v,ws,rfl,h1,h2⟩:=h
    exact⟨v,ws,rfl,h1.weak d,eF.weak d h2⟩
theorem dY.frz{F'':Hp}(x:dY σ F H e F' H' e')(s:ax F' F'')(h:∀a,F' a=none→H a≠none→F'' a=none):dY σ F H e F'' H' e':=
  ⟨x.sf.trans s,x.dom,fun a vs h1 h2 h3=>h a (x.fr a vs h1 h2 h3) (by rw [h2];simp),x.lst,x.tmp,x.shp,x.ow,fun a m h1 h2 h3=>h a (x.fd a m h1 h2 h3) (by rw [h2];simp)⟩
def gP:List Rv→Option (List PD)
  | []=>some []
  | .d x::rs=>(gP rs).map (x::·)
  | .l xs::rs=>(gP rs).map (.list xs::·)
  | .s _::_=>none
theorem eF.frozen:∀{rs:List Rv} {vs:List V} {ds:List PD} {F:Hp},bj K F H σ e→eF K σ H0 F H e rs vs→gP rs=some ds→
    ∃F',bj K F' H σ e∧ax F F'∧aT K F' ds vs∧(∀a,F a=none→H0 a≠none→F' a=none)
  | [],_,_,F,R,h,q=>by
    cases q
    have h':_=[]:=h
    subst h'
    exact⟨F,R,ax.refl _,aT.nil,fun _ h _=>h⟩
  | .d x::rs,_,ds,F,R,h,q=>by
    obtain⟨v,ws,rfl,h1,h2⟩:=h
    obtain⟨ds',q1,rfl⟩:=Pt q
    obtain⟨F',R',s',d',f'⟩:=eF.frozen R h2 q1
    exact⟨F',R',s',.cons (DA.mono s' h1) d',f'⟩
  | .l xs::rs,_,ds,F,R,h,q=>by
    obtain⟨v,ws,rfl,h1,h2⟩:=h
    obtain⟨ds',q1,rfl⟩:=Pt q
    obtain⟨F',R',s',d',f'⟩:=eF.frozen R h2 q1
    obtain⟨l,us,rfl,g1,g2,g3,g4,g5⟩:=h1
    cases hl:F' l with
    | none=>
      have h1':cK K σ H0 F' H e (.l xs) (.ref l):=⟨l,us,rfl,g1,hl,g3,aT.mono s' g4,g5⟩
      obtain⟨F2,R2,s2,d2,f2⟩:=h1'.frozen R'
      exact⟨F2,R2,s'.trans s2,.cons d2 (aT.mono s2 d'),fun a ha hn=>f2 a (f' a ha hn) hn⟩
    | some o=>
      have:=R'.sm _ _ hl
      rw [g3] at this;cases this
      exact⟨F',R',s',.cons (gF.mpr ⟨l,us,rfl,.inl (.inl hl),aT.mono s' g4⟩) d',f'⟩
end
section
variable{X:Cx}{K:PF}{a b c:PH}{fa fb:FE}{ft fu:FT}{pos:Pos}{es:List PH}{fs:FA}
def ae(i:Nat):FE:=fun e=>match e[i]? with
  | some (some (.d x))=>some (.d x,e)
  | some (some (.l _))=>some (.s i,e)
  | _=>none
def vC(x:PD):FE:=fun e=>some (.d x,e)
theorem Eu{i:Nat}{σ:L2.St}{H:Hp}{Q:VK}(h:fE K (ae i) σ H Q):rB i σ H Q:=by
  obtain⟨F,e,r,e',R,hf,q⟩:=h
  unfold ae at hf
  match h1:e[i]?,hf with
  | some (some (.d x)),hf=>
    cases hf
    obtain⟨v,h2,h3⟩:=R.dat i x h1
    exact⟨v,h2,q F H v (dY.refl _ _ _ _) R h3⟩
  | some (some (.n _)),hf=>cases hf
  | some (some (.l xs)),hf=>
    cases hf
    obtain⟨l,vs,h2,h3⟩:=R.own i xs h1
    exact⟨_,h2,q F H _ (dY.refl _ _ _ _) R ⟨h2,xs,h1⟩⟩
  | some none,hf=>cases hf
  | none,hf=>cases hf
theorem qv(i:Nat){x:Str}{pos:Pos}(hN:X.N[i]?=some x)(hv:Iq X.env.scope x)(hd:(x==("__debug__":Str))=false)(hcd:(x==("__classdict__":Str))=false):PE X (.Name x pos) (fE K (ae i)):=(be hN hv hd hcd).mono fun _ _ _ h=>Eu h
theorem wc{x:PD}{v:V}{σ:L2.St}{H:Hp}{Q:VK}(hx:∀F,DA K F x v)(h:fE K (vC x) σ H Q):tC v σ H Q:=by
  obtain⟨F,e,r,e',R,hf,q⟩:=h
  cases hf
  exact q F H v (dY.refl _ _ _ _) R (hx F)
theorem ag{i j pos}:PE X (.Constant (.int i) j pos) (fE K (vC (.int i))):=G6.mono fun _ _ _ h=>wc (fun _=>cA.mpr rfl) h
theorem lx{b j pos}:PE X (.Constant (.bool b) j pos) (fE K (vC (.bool b))):=Js.mono fun _ _ _ h=>wc (fun _=>ef.mpr rfl) h
theorem gK{j pos}:PE X (.Constant .none j pos) (fE K (vC .none)):=G8.mono fun _ _ _ h=>wc (fun _=>gW.mpr rfl) h
theorem am{x j pos}:PE X (.Constant (.str x) j pos) (fE K (vC (.str x))):=xq.mono fun _ _ _ h=>wc (fun _=>jy.mpr rfl) h
theorem yw{x:Str}{v:V}{u:MG}{pos:Pos}{y:PD}(hg:Gl X x)(hm:X.mg x=some u)(r:bN v u)(hy:∀F,DA K F y v)(hd:(x==("__debug__":Str))=false):PE X (.Name x pos) (fE K (vC y)):=(DC hg hm r hd).mono fun _ _ _ h=>wc hy h
def gT(K:PF)(r:R2)(g:En→Rv→Rv→Option Rv):Prop:=
  ∀(σ:L2.St) (H0 F H:Hp) (e:En) (x y z:Rv) (v u:V) (Q:VK),bj K F H σ e→cK K σ H0 F H e x v→cK K σ H0 F H e y u→g e x y=some z→
    (∀F' H' w,dY σ F H e F' H' e→bj K F' H' σ e→cK K σ H F' H' e z w→Q w H')→r v u H Q
def aw(g:En→Rv→Rv→Option Rv)(fa fb:FE):FE:=fun e=>(fa e).bind fun p=>(fb p.2).bind fun q=>(g q.2 p.1 q.1).map fun z=>(z,q.2)
theorem qR{r:R2}{g:En→Rv→Rv→Option Rv}(ho:gT K r g){σ:L2.St}{H:Hp}{Q:VK}(h:fE K (aw g fa fb) σ H Q):Il r (fE K fa) (fE K fb) σ H Q:=by
  obtain⟨F,e,z,e2,R,hf,q⟩:=h
  unfold aw at hf
  obtain⟨⟨x,e1⟩,h1,hf⟩:=Pr hf
  obtain⟨⟨y,e2'⟩,h2,hf⟩:=Pr hf
  obtain⟨z',h3,hf⟩:=Pt hf
  cases hf
  refine⟨F,e,x,e1,R,h1,fun F1 H1 v X1 R1 A1=>⟨F1,e1,y,_,R1,h2,fun F2 H2 u X2 R2 A2=>?_⟩⟩
  have X12:=X1.trans X2
  refine ho σ H F2 H2 _ x y _ v u Q R2 (A1.ext X2) (A2.weak X1.dom) h3 fun F3 H3 w X3 R3 A3=>?_
  exact q F3 H3 w (X12.trans X3) R3 (A3.weak X12.dom)
theorem mW{op:Operator}{r:R2}{g:En→Rv→Rv→Option Rv}(hr:iH X (Qt op) r)(ho:gT K r g)(ha:PE X a (fE K fa))(hb:PE X b (fE K fb)):PE X (.BinOp a op b pos) (fE K (aw g fa fb)):=(EW hr ha hb).mono fun _ _ _ h=>qR ho h
theorem Ho{op:CmpOp}{r:R2}{g:En→Rv→Rv→Option Rv}(hr:iH X (QB op) r)(ho:gT K r g)(ha:PE X a (fE K fa))(hb:PE X b (fE K fb))(hm:Rl op b=false):PE X (.Compare a [op] [b] pos) (fE K (aw g fa fb)):=(DB hr ha hb hm).mono fun _ _ _ h=>qR ho h
theorem E3{r:R2}{g:En→Rv→Rv→Option Rv}(hr:Cf X r)(ho:gT K r g)(ha:PE X a (fE K fa))(hb:PE X b (fE K fb))(hs:l7 b):PE X (.Subscript a b pos) (fE K (aw g fa fb)):=(EV hr ha hb hs).mono fun _ _ _ h=>qR ho h
def qV(g:En→Rv→Option Rv)(fa:FE):FE:=fun e=>(fa e).bind fun p=>(g p.2 p.1).map fun z=>(z,p.2)
def Ig(K:PF)(r:V→Hp→VK→Prop)(g:En→Rv→Option Rv):Prop:=
  ∀(σ:L2.St) (H0 F H:Hp) (e:En) (x z:Rv) (v:V) (Q:VK),bj K F H σ e→cK K σ H0 F H e x v→g e x=some z→
    (∀F' H' w,dY σ F H e F' H' e→bj K F' H' σ e→cK K σ H F' H' e z w→Q w H')→r v H Q
theorem Cc{r:V→Hp→VK→Prop}{g:En→Rv→Option Rv}(ho:Ig K r g){σ:L2.St}{H:Hp}{Q:VK}(h:fE K (qV g fa) σ H Q):LX r (fE K fa) σ H Q:=by
  obtain⟨F,e,z,e2,R,hf,q⟩:=h
  unfold qV at hf
  obtain⟨⟨x,e1⟩,h1,hf⟩:=Pr hf
  obtain⟨z',h3,hf⟩:=Pt hf
  cases hf
  refine⟨F,e,x,_,R,h1,fun F1 H1 v X1 R1 A1=>?_⟩
  refine ho σ H F1 H1 _ x _ v Q R1 A1 h3 fun F3 H3 w X3 R3 A3=>?_
  exact q F3 H3 w (X1.trans X3) R3 (A3.weak X1.dom)
theorem JB{op:UnaryOp}{r:V→Hp→VK→Prop}{g:En→Rv→Option Rv}(hr:Kl X (unaryOp op) r)(ho:Ig K r g)(ha:PE X a (fE K fa)):PE X (.UnaryOp op a pos) (fE K (qV g fa)):=(Ju hr ha).mono fun _ _ _ h=>Cc ho h
def dm:Rv→Option Bool
  | .d (.bool b)=>some b
  | _=>none
theorem h_{σ:L2.St}{H0 F H:Hp}{e:En}{r:Rv}{v:V}{b:Bool}(h:cK K σ H0 F H e r v)(q:dm r=some b):v=.bl b:=by
  unfold dm at q
  split at q
  · cases q;exact ef.mp (show DA K F (.bool _) v from h)
  · cases q
theorem fj{σ:L2.St}{H0 F H:Hp}{e:En}{b:Bool}:cK K σ H0 F H e (.d (.bool b)) (.bl b):=(ef (K:=K) (F:=F)).mpr rfl
def aE(f:FE):FT:=fun e=>(f e).bind fun p=>(dm p.1).map fun b=>(b,p.2)
theorem wq{σ:L2.St}{H:Hp}{Q:Bool→Hp→Prop}(h:fT K (aE fa) σ H Q):fE K fa σ H fun x H'=>∃k,x=.bl k∧Q k H':=by
  obtain⟨F,e,b,e1,R,hf,q⟩:=h
  unfold aE at hf
  obtain⟨⟨x,e1'⟩,h1,hf⟩:=Pr hf
  obtain⟨b',h3,hf⟩:=Pt hf
  cases hf
  exact⟨F,e,x,_,R,h1,fun F1 H1 v X1 R1 A1=>⟨_,h_ A1 h3,q F1 H1 X1 R1⟩⟩
theorem Ht{op:CmpOp}{r:R2}{g:En→Rv→Rv→Option Rv}(hr:iH X (QB op) r)(ho:gT K r g)(ha:PE X a (fE K fa))(hb:PE X b (fE K fb))(hm:Rl op b=false):PT X (.Compare a [op] [b] pos) (fT K (aE (aw g fa fb))):=
  (yq hr ha hb hm).mono fun σ H Q h=>by
    obtain⟨F,e,z,e2,R,hf,q⟩:=wq h
    exact qR ho ⟨F,e,z,e2,R,hf,q⟩
theorem gL{e:PH}(h:PE X e (fE K fa))(he:∀whole,isTrue e X.env whole=(do let v ←whole;RH e.pos;Rm [v] (truthy v))):PT X e (fT K (aE fa)):=(Bj h he).mono fun _ _ _ h=>wq h
def lq(f g:FT):FT:=fun e=>(f e).bind fun p=>if p.1=true then g p.2 else some (false,p.2)
def uG(f g:FT):FT:=fun e=>(f e).bind fun p=>if p.1=true then some (true,p.2) else g p.2
def kP(f:FT):FT:=fun e=>(f e).map fun p=>(!p.1,p.2)
theorem Ep{σ:L2.St}{H:Hp}{Q:Bool→Hp→Prop}(h:fT K (lq ft fu) σ H Q):HM (fT K ft) (fT K fu) σ H Q:=by
  obtain⟨F,e,b,e1,R,hf,q⟩:=h
  unfold lq at hf
  obtain⟨⟨x,e1'⟩,h1,hf⟩:=Pr hf
  refine⟨F,e,x,e1',R,h1,fun F1 H1 X1 R1=>?_⟩
  cases x with
  | true=>exact⟨F1,e1',b,e1,R1,hf,fun F2 H2 X2 R2=>q F2 H2 (X1.trans X2) R2⟩
  | false=>cases hf;exact q F1 H1 X1 R1
theorem HW{σ:L2.St}{H:Hp}{Q:Bool→Hp→Prop}(h:fT K (uG ft fu) σ H Q):Lu (fT K ft) (fT K fu) σ H Q:=by
  obtain⟨F,e,b,e1,R,hf,q⟩:=h
  unfold uG at hf
  obtain⟨⟨x,e1'⟩,h1,hf⟩:=Pr hf
  refine⟨F,e,x,e1',R,h1,fun F1 H1 X1 R1=>?_⟩
  cases x with
  | false=>exact⟨F1,e1',b,e1,R1,hf,fun F2 H2 X2 R2=>q F2 H2 (X1.trans X2) R2⟩
  | true=>cases hf;exact q F1 H1 X1 R1
theorem Er{σ:L2.St}{H:Hp}{Q:Bool→Hp→Prop}(h:fT K (kP ft) σ H Q):J4 (fT K ft) σ H Q:=by
  obtain⟨F,e,b,e1,R,hf,q⟩:=h
  unfold kP at hf
  obtain⟨⟨x,e1'⟩,h1,hf⟩:=Pt hf
  cases hf
  exact⟨F,e,x,_,R,h1,fun F1 H1 X1 R1=>q F1 H1 X1 R1⟩
variable{cH:List PH}
theorem pA(ha:PT X a (fT K ft)):PW X (.BoolOp .And [a] pos) (fT K ft):=yr ha
theorem nX(ha:PT X a (fT K ft)):PW X (.BoolOp .Or [a] pos) (fT K ft):=Bl ha
theorem um(ha:PT X a (fT K ft))(hb:PW X (.BoolOp .And (b::cH) pos) (fT K fu)):PW X (.BoolOp .And (a::b::cH) pos) (fT K (lq ft fu)):=(Bk ha hb).mono fun _ _ _ h=>Ep h
theorem sv(ha:PT X a (fT K ft))(hb:PW X (.BoolOp .Or (b::cH) pos) (fT K fu)):PW X (.BoolOp .Or (a::b::cH) pos) (fT K (uG ft fu)):=(EZ ha hb).mono fun _ _ _ h=>HW h
theorem ul(ha:PT X a (fT K ft)):PT X (.UnaryOp .Not a pos) (fT K (kP ft)):=(Bi ha).mono fun _ _ _ h=>Er h
theorem rk{e:PH}(h:PW X e (fT K ft)):PT X e (fT K ft):=h.pt
def jY(f g:FE):FE:=fun e=>(f e).bind fun p=>(dm p.1).bind fun b=>if b=true then g p.2 else some (.d (.bool false),p.2)
def uA(f g:FE):FE:=fun e=>(f e).bind fun p=>(dm p.1).bind fun b=>if b=true then some (.d (.bool true),p.2) else g p.2
def nB(f:FE):FE:=fun e=>(f e).bind fun p=>(dm p.1).map fun b=>(.d (.bool (!b)),p.2)
theorem Hn(ha:PE X a (fE K fa))(hb:PE X (.BoolOp .And (b::cH) pos) (fE K fb)):PE X (.BoolOp .And (a::b::cH) pos) (fE K (jY fa fb)):=(G3 ha hb).mono fun σ H Q h=>by
  obtain⟨F,e,z,e2,R,hf,q⟩:=h
  unfold jY at hf
  obtain⟨⟨x,e1⟩,h1,hf⟩:=Pr hf
  obtain⟨b,h2,hf⟩:=Pr hf
  refine⟨F,e,x,e1,R,h1,fun F1 H1 v X1 R1 A1=>⟨b,h_ A1 h2,?_⟩⟩
  cases b with
  | true=>exact⟨F1,e1,z,e2,R1,hf,fun F2 H2 w X2 R2 A2=>q F2 H2 w (X1.trans X2) R2 (A2.weak X1.dom)⟩
  | false=>cases hf;exact q F1 H1 _ X1 R1 fj
theorem Hq{op}(h:PE X a (fE K fa)):PE X (.BoolOp op [a] pos) (fE K fa):=G9 h
def xO(t:FT)(f g:FE):FE:=fun e=>(t e).bind fun p=>if p.1=true then f p.2 else g p.2
theorem mV{c:PH}(hc:PT X c (fT K ft))(ha:PE X a (fE K fa))(hb:PE X b (fE K fb)):PE X (.IfExp c a b pos) (fE K (xO ft fa fb)):=(vE hc ha hb).mono fun σ H Q h=>by
  obtain⟨F,e,z,e2,R,hf,q⟩:=h
  unfold xO at hf
  obtain⟨⟨x,e1⟩,h1,hf⟩:=Pr hf
  refine⟨F,e,x,e1,R,h1,fun F1 H1 X1 R1=>?_⟩
  cases x with
  | true=>exact⟨F1,e1,z,e2,R1,hf,fun F2 H2 w X2 R2 A2=>q F2 H2 w (X1.trans X2) R2 (A2.weak X1.dom)⟩
  | false=>exact⟨F1,e1,z,e2,R1,hf,fun F2 H2 w X2 R2 A2=>q F2 H2 w (X1.trans X2) R2 (A2.weak X1.dom)⟩
def aj:FA:=fun e=>some ([],e)
def ac(fa:FE)(fs:FA):FA:=fun e=>(fa e).bind fun p=>(fs p.2).map fun q=>(p.1::q.1,q.2)
theorem af:PA X [] (fA K aj):=lR.mono fun σ H Q h=>by
  obtain⟨F,e,r,e',R,hf,q⟩:=h
  cases hf
  exact q F H [] (dY.refl _ _ _ _) R rfl
theorem Lg(ha:PE X a (fE K fa))(hr:PA X es (fA K fs))(h:SX a=false):PA X (a::es) (fA K (ac fa fs)):=(Dx ha hr h).mono fun σ H Q h=>by
  obtain⟨F,e,z,e2,R,hf,q⟩:=h
  unfold ac at hf
  obtain⟨⟨x,e1⟩,h1,hf⟩:=Pr hf
  obtain⟨⟨xs,e2'⟩,h2,hf⟩:=Pt hf
  cases hf
  refine⟨F,e,x,e1,R,h1,fun F1 H1 v X1 R1 A1=>⟨F1,e1,xs,_,R1,h2,fun F2 H2 vs X2 R2 A2=>?_⟩⟩
  exact q F2 H2 (v::vs) (X1.trans X2) R2 ⟨v,vs,rfl,A1.ext X2,A2.weak X1.dom⟩
def c9(fs:FA):FE:=fun e=>(fs e).bind fun p=>(gP p.1).bind fun ds=>if ds.length≤1000 then some (.d (.tuple ds),p.2) else none
def cc(fs:FA):FE:=fun e=>(fs e).bind fun p=>(gP p.1).bind fun ds=>if ds.length≤1000 then some (.l ds,p.2) else none
theorem bM{x1}(h:PA X es (fA K fs)):PE X (.Tuple es x1 pos) (fE K (c9 fs)):=(G_ h).mono fun σ H Q h=>by
  obtain⟨F,e,z,e2,R,hf,q⟩:=h
  unfold c9 at hf
  obtain⟨⟨rs,e1⟩,h1,hf⟩:=Pr hf
  obtain⟨ds,h2,hf⟩:=Pr hf
  split at hf
  case isFalse=>cases hf
  case isTrue hl=>
  cases hf
  refine⟨F,e,rs,_,R,h1,fun F1 H1 vs X1 R1 A1=>?_⟩
  obtain⟨F2,R2,s2,d2,f2⟩:=eF.frozen R1 A1 h2
  have hlen:=d2.len
  refine⟨Sm (sE (by lia)),fun p hp=>?_⟩
  obtain⟨R3,X3⟩:=R2.newT (vs:=vs) hp
  exact q _ _ _ ((X1.frz s2 f2).trans X3) R3 (eC.mpr ⟨p,vs,rfl,.inl (.inl aM),aT.mono X3.sf d2⟩)
theorem bO(h:PA X es (fA K fs)):PE X (.List es pos) (fE K (cc fs)):=(G7 h).mono fun σ H Q h=>by
  obtain⟨F,e,z,e2,R,hf,q⟩:=h
  unfold cc at hf
  obtain⟨⟨rs,e1⟩,h1,hf⟩:=Pr hf
  obtain⟨ds,h2,hf⟩:=Pr hf
  split at hf
  case isFalse=>cases hf
  case isTrue hl=>
  cases hf
  refine⟨F,e,rs,_,R,h1,fun F1 H1 vs X1 R1 A1=>?_⟩
  obtain⟨F2,R2,s2,d2,f2⟩:=eF.frozen R1 A1 h2
  have hlen:=d2.len
  refine⟨Sm (sE (by lia)),fun p hp=>?_⟩
  obtain⟨R3,X3,hF,no⟩:=R2.newL (vs:=vs) hp
  exact q _ _ _ ((X1.frz s2 f2).trans X3) R3 ⟨p,vs,rfl,X1.dom p hp,hF,aM,d2,no⟩
def dS(K:PF)(r:List V→Hp→VK→Prop)(g:En→List Rv→Option Rv):Prop:=
  ∀(σ:L2.St) (H0 F H:Hp) (e:En) (xs:List Rv) (z:Rv) (vs:List V) (Q:VK),bj K F H σ e→eF K σ H0 F H e xs vs→g e xs=some z→
    (∀F' H' w,dY σ F H e F' H' e→bj K F' H' σ e→cK K σ H F' H' e z w→Q w H')→r vs H Q
def aA(g:En→List Rv→Option Rv)(fs:FA):FE:=fun e=>(fs e).bind fun p=>(g p.2 p.1).map fun z=>(z,p.2)
theorem we{r:List V→Hp→VK→Prop}{g:En→List Rv→Option Rv}(ho:dS K r g){σ:L2.St}{H:Hp}{Q:VK}(h:fE K (aA g fs) σ H Q):Kq r (fA K fs) σ H Q:=by
  obtain⟨F,e,z,e2,R,hf,q⟩:=h
  unfold aA at hf
  obtain⟨⟨x,e1⟩,h1,hf⟩:=Pr hf
  obtain⟨z',h3,hf⟩:=Pt hf
  cases hf
  refine⟨F,e,x,_,R,h1,fun F1 H1 vs X1 R1 A1=>?_⟩
  refine ho σ H F1 H1 _ x _ vs Q R1 A1 h3 fun F3 H3 w X3 R3 A3=>?_
  exact q F3 H3 w (X1.trans X3) R3 (A3.weak X1.dom)
theorem Br{x:Str}{p pos:Pos}{id:String}{r:List V→Hp→VK→Prop}{g:En→List Rv→Option Rv}(hc:dX X (.builtin id) r)(ho:dS K r g)(hg:Gl X x)(hm:X.mg x=none)(hv:Rt x=some (.builtin id))(ha:PA X (a::es) (fA K fs))(hn:x≠"__name__")(hdb:(x==("__debug__":Str))=false)
    (he:PU (a::es) X.env=(false,PV a X.env)::PU es X.env)(hpl:(Qf pos (PU es X.env)).any (·.1)=false):PE X (.Call (.Name x p) (a::es) [] pos) (fE K (aA g fs)):=(qg hc hg hm hv ha hn hdb he hpl).mono fun _ _ _ h=>we ho h
theorem zz{x:Str}{p pos:Pos}{T:String}{r:List V→Hp→VK→Prop}{g:En→List Rv→Option Rv}(hc:dX X (.type T) r)(ho:dS K r g)(hg:Gl X x)(hm:X.mg x=none)(hv:Rt x=some (.type T))(ha:PA X (a::es) (fA K fs))(hn:x≠"__name__")(hdb:(x==("__debug__":Str))=false)
    (he:PU (a::es) X.env=(false,PV a X.env)::PU es X.env)(hpl:(Qf pos (PU es X.env)).any (·.1)=false):PE X (.Call (.Name x p) (a::es) [] pos) (fE K (aA g fs)):=(sr hc hg hm hv ha hn hdb he hpl).mono fun _ _ _ h=>we ho h
end
mutual
theorem DA.reads{X:Cx}{pins:List (xM × Obj)}{σ:L2.St}{H:Hp}{s:PB}(I:aN X pins σ H s):∀{d:PD} {v:V} {u:MG},d.canLay0=true→DA X.K H d v→bN v u→∃as,Reads s.heap u d as
  | .none,_,_,_,q,r=>by
    simp only [DA] at q;subst q;cases r;exact⟨_,.none⟩
  | .bool b,_,_,_,q,r=>by
    simp only [DA] at q;subst q;cases r;exact⟨_,.bool b⟩
  | .int i,_,_,_,q,r=>by
    simp only [DA] at q;subst q;obtain⟨t,rfl⟩:=r;exact⟨_,.int i t⟩
  | .str x,_,_,_,q,r=>by
    simp only [DA] at q;subst q;obtain⟨t,rfl⟩:=r;exact⟨_,.str x t⟩
  | .tuple ds,_,_,c,q,r=>by
    simp only [DA] at q
    obtain⟨a,xs,e,hs,rr⟩:=q
    subst e;cases r
    obtain⟨its,rv,⟨o,ho,hc,n,hd⟩,hz⟩:=I.tuple hs
    obtain⟨as,q⟩:=aT.reads I (by simpa [Qr] using c) rr rv
    exact⟨_,.tuple ho hc hd q⟩
  | .list ds,_,_,c,q,r=>by
    simp only [DA] at q
    obtain⟨a,xs,e,hs,rr⟩:=q
    subst e;cases r
    obtain⟨its,rv,ht,hz⟩:=I.list hs
    obtain⟨o,ho,hc,n,hd⟩:=ht.isList
    obtain⟨as,q⟩:=aT.reads I (by simpa [Qr] using c) rr rv
    exact⟨_,.list ho hc hd q⟩
  | .dict _,_,_,c,_,_=>by simp [Qr] at c
theorem aT.reads{X:Cx}{pins:List (xM × Obj)}{σ:L2.St}{H:Hp}{s:PB}(I:aN X pins σ H s):∀{ds:List PD} {xs:List V} {us:List MG},QW ds=true→aT X.K H ds xs→aV xs us→∃as,ReadsAll s.heap us ds as
  | [],_,_,_,q,r=>by
    simp only [aT] at q;subst q;cases r;exact⟨_,.nil⟩
  | d::ds,_,_,c,q,r=>by
    simp only [aT] at q
    simp only [QW,QD] at c
    obtain⟨x,rr,e,a,b⟩:=q
    subst e
    cases r with
    | cons p p'=>
      obtain⟨as,q1⟩:=DA.reads I c.1 a p
      obtain⟨bs,q2⟩:=aT.reads I c.2 b p'
      exact⟨_,.cons q1 q2⟩
end
def ix(e:En):Rv→Option PD
  | .d x=>some x
  | .l xs=>some (.list xs)
  | .s i=>match e[i]? with
    | some (some (.l xs))=>some (.list xs)
    | _=>none
theorem j_{K:PF}{σ:L2.St}{H0 F H:Hp}{e:En}{r:Rv}{v:V}{d:PD}(R:bj K F H σ e)(h:cK K σ H0 F H e r v)(q:ix e r=some d):DA K H d v:=by
  cases r with
  | d x=>cases q;exact DA.mono R.sm h
  | l xs=>
    cases q
    obtain⟨l,vs,rfl,h1,h2,h3,h4,_⟩:=h
    exact gF.mpr ⟨l,vs,rfl,.inl (.inl h3),aT.mono R.sm h4⟩
  | s i=>
    obtain⟨h1,ys,h2⟩:=h
    simp only [ix,h2] at q
    cases q
    obtain⟨l,vs,e1,e2,e3,e4⟩:=R.own i _ h2
    rw [h1] at e1;cases e1
    exact gF.mpr ⟨l,vs,rfl,.inl (.inl e3),aT.mono R.sm e4⟩
section
variable{X:Cx}{K:PF}
def bW:Rv→Option Int
  | .d (.int i)=>some i
  | _=>none
theorem cF{σ:L2.St}{H0 F H:Hp}{e:En}{r:Rv}{v:V}{i:Int}(h:cK K σ H0 F H e r v)(q:bW r=some i):v=.int i:=by
  unfold bW at q
  split at q
  · cases q;exact cA.mp (show DA K F (.int _) v from h)
  · cases q
theorem qt{σ:L2.St}{H0 F H:Hp}{e:En}{i:Int}:cK K σ H0 F H e (.d (.int i)) (.int i):=(cA (K:=K) (F:=F)).mpr rfl
def gI(C:Int→Int→Bool)(f:Int→Int→PD):En→Rv→Rv→Option Rv:=fun _ x y=>(bW x).bind fun i=>(bW y).bind fun j=>if C i j=true then some (.d (f i j)) else none
theorem vB{C:Int→Int→Prop}{c:Int→Int→Bool}{g:Int→Int→V}{f:Int→Int→PD}(hc:∀i j,c i j=true→C i j)(hf:∀F i j,DA K F (f i j) (g i j)):gT K (rI C g) (gI c f):=by
  intro σ H0 F H e x y z v u Q R A B hg q
  unfold gI at hg
  obtain⟨i,h1,hg⟩:=Pr hg
  obtain⟨j,h2,hg⟩:=Pr hg
  split at hg
  case isFalse=>cases hg
  case isTrue hh=>
  cases hg
  exact⟨i,j,cF A h1,cF B h2,hc i j hh,q F H _ (dY.refl _ _ _ _) R (hf F i j)⟩
theorem lQ{g:Int→Int→V}{f:Int→Int→PD}(hf:∀F i j,DA K F (f i j) (g i j)):gT K (zA g) (gI (fun _ _=>true) f):=by
  intro σ H0 F H e x y z v u Q R A B hg q
  obtain⟨i,j,h1,h2,h3,h4⟩:=vB (K:=K) (C:=fun _ _=>True) (c:=fun _ _=>true) (g:=g) (f:=f) (fun _ _ _=>trivial) hf σ H0 F H e x y z v u Q R A B hg q
  exact⟨i,j,h1,h2,h4⟩
def Cp(g g':En→Rv→Rv→Option Rv):En→Rv→Rv→Option Rv:=fun e x y=>(g e x y).or (g' e x y)
theorem gT.or{r r':R2}{g g':En→Rv→Rv→Option Rv}(h:gT K r g)(h':gT K r' g'):gT K (fun x y H Q=>r x y H Q∨r' x y H Q) (Cp g g'):=by
  intro σ H0 F H e x y z v u Q R A B hg q
  unfold Cp at hg
  cases e1:g e x y with
  | some w=>
    rw [e1] at hg
    cases hg
    exact .inl (h σ H0 F H e x y _ v u Q R A B e1 q)
  | none=>
    rw [e1] at hg
    exact .inr (h' σ H0 F H e x y _ v u Q R A B hg q)
def rT:=gI (fun _ _=>true) fun i j=>.int (i+j)
def lL:=gI (fun _ _=>true) fun i j=>.int (i - j)
def jQ(i:Int):Bool:=decide (-(2 ^ 64) < i)&&decide (i < 2 ^ 64)
def ID(n:Nat)(i:Int):Bool:=decide (i.natAbs < 2 ^ n)
theorem l_{n:Nat}{i:Int}:ID n i=true↔ Bt n i:=by unfold ID Bt;exact decide_eq_true_iff
def nQ(i j:Int):Bool:=jQ i || jQ j || (ID 4000 i&&ID 4000 j)
def u9:=gI nQ fun i j=>.int (i*j)
def dq:=gI (fun _ j=>j != 0&&ID 8000 j) fun i j=>.int (i.fdiv j)
def bB:=gI (fun _ j=>j != 0) fun i j=>.int (i.fmod j)
def Bf(i j:Int):Bool:=decide (0≤j)&&decide (j≤1000000)&&jQ i
def wN:=gI Bf fun i j=>.int (i ^ j.toNat)
theorem lY{i:Int}(h:jQ i=true): -(2 ^ 64) < i∧i < 2 ^ 64:=by
  unfold jQ at h
  rw [QD,decide_eq_true_iff,decide_eq_true_iff] at h
  exact h
theorem DP{i j:Int}(h:Bf i j=true):Fq i j:=by
  unfold Bf at h
  rw [QD,QD,decide_eq_true_iff,decide_eq_true_iff] at h
  have:=lY h.2
  exact⟨h.1.1,h.1.2,by lia⟩
def xQ(i j:Int):Prop:=Ct i j∨Ez i j
theorem Ds:iH X (Qt .Mult) (rI xQ fun i j=>.int (i*j)):=by
  intro pins s σ H x y v u Q I rx ry h
  obtain⟨i,j,e1,e2,h1,q⟩:=h
  rcases h1 with h1 | h1
  · exact GY pins s σ H x y v u Q I rx ry ⟨i,j,e1,e2,h1,q⟩
  · exact Dt pins s σ H x y v u Q I rx ry ⟨i,j,e1,e2,h1,q⟩
theorem De{i j:Int}(h:nQ i j=true):xQ i j:=by
  unfold nQ at h
  rw [Bool.or_eq_true,Bool.or_eq_true,QD] at h
  rcases h with (h | h) | h
  · exact .inl (.inl (lY h))
  · exact .inl (.inr (lY h))
  · exact .inr ⟨l_.mp h.1,l_.mp h.2⟩
theorem GF:gT K (rI xQ fun i j=>.int (i*j)) u9:=vB (fun _ _ h=>De h) fun _ _ _=>cA.mpr rfl
theorem JV:gT K (zA fun i j=>.int (i - j)) lL:=lQ fun _ _ _=>cA.mpr rfl
theorem FR:gT K (rI Ey fun i j=>.int (i.fdiv j)) dq:=vB (fun i j h=>by
  rw [QD] at h
  exact⟨by simpa using h.1,l_.mp h.2⟩) fun _ _ _=>cA.mpr rfl
theorem Jl:gT K (rI (fun _ j=>j≠0) fun i j=>.int (i.fmod j)) bB:=vB (fun i j h=>by simpa using h) fun _ _ _=>cA.mpr rfl
theorem Jv:gT K (rI Fq fun i j=>.int (i ^ j.toNat)) wN:=vB (fun _ _ h=>DP h) fun _ _ _=>cA.mpr rfl
def lr:En→Rv→Rv→Option Rv:=fun e x y=>match cU e x,cU e y with
  | some (false,xs),some (false,ys)=>if xs.length+ys.length≤1000000 then some (.d (.tuple (xs++ys))) else none
  | _,_=>none
theorem FH:gT K (By K) lr:=by
  intro σ H0 F H e x y z v u Q R A B hg q
  unfold lr at hg
  match h1:cU e x,h2:cU e y,hg with
  | some (false,xs),some (false,ys),hg=>
    obtain⟨p,vs,rfl,d1,s1⟩:=cV R A h1
    obtain⟨p',us,rfl,d2,s2⟩:=cV R B h2
    dsimp only at hg
    split at hg
    case isFalse=>cases hg
    case isTrue hl=>
    cases hg
    have l1:=d1.len
    have l2:=d2.len
    have sl:PY=16777216:=QC
    refine⟨p,p',vs,us,rfl,rfl,s1,s2,by lia,fun t H' sm hT=>?_⟩
    obtain⟨F',R',X',hF⟩:=R.growT sm hT
    exact q F' H' _ X' R' (eC.mpr ⟨t,_,rfl,hF,(d1.append d2).mono X'.sf⟩)
def xc(e:En):Rv→Option (List PD)
  | .l xs=>some xs
  | .s i=>match e[i]? with
    | some (some (.l xs))=>some xs
    | _=>none
  | _=>none
theorem ua{σ:L2.St}{H0 F H:Hp}{e:En}{r:Rv}{v:V}(R:bj K F H σ e)(h:cK K σ H0 F H e r v){xs:List PD}(q:xc e r=some xs):∃p vs,v=.ref p∧F p=none∧H p=some (.lst vs)∧aT K F xs vs:=by
  cases r with
  | d x=>cases q
  | l ys=>
    cases q
    obtain⟨l,vs,e1,h1,h2,h3,h4,_⟩:=h
    exact⟨l,vs,e1,h2,h3,h4⟩
  | s i=>
    obtain⟨h1,ys,h2⟩:=h
    simp only [xc,h2] at q
    cases q
    obtain⟨l,vs,e1,e2,e3,e4⟩:=R.own i _ h2
    rw [h1] at e1;cases e1
    exact⟨l,vs,rfl,e2,e3,e4⟩
def pP:En→Rv→Rv→Option Rv:=fun e x y=>(xc e x).bind fun xs=>(xc e y).bind fun ys=>if xs.length+ys.length≤1000000 then some (.l (xs++ys)) else none
theorem FF:gT K Hw pP:=by
  intro σ H0 F H e x y z v u Q R A B hg q
  unfold pP at hg
  obtain⟨xs,h1,hg⟩:=Pr hg
  obtain⟨ys,h2,hg⟩:=Pr hg
  split at hg
  case isFalse=>cases hg
  case isTrue hl=>
  cases hg
  obtain⟨p,vs,rfl,f1,s1,d1⟩:=ua R A h1
  obtain⟨p',us,rfl,f2,s2,d2⟩:=ua R B h2
  have l1:=d1.len
  have l2:=d2.len
  have sl:PY=16777216:=QC
  refine⟨p,p',vs,us,rfl,rfl,s1,s2,by lia,fun t ht=>?_⟩
  obtain⟨R3,X3,hF,no⟩:=R.newL (vs:=vs++us) ht
  exact q _ _ _ X3 R3 ⟨t,_,rfl,ht,hF,aM,d1.append d2,no⟩
def bi:En→Rv→Rv→Option Rv:=Cp rT (Cp lr pP)
def E6(K:PF):R2:=fun x y H Q=>zA (fun i j=>.int (i+j)) x y H Q∨(By K x y H Q∨Hw x y H Q)
theorem yo:iH X (Qt .Add) (E6 X.K):=GR.or (Dn.or GS)
theorem EC:gT K (E6 K) bi:=gT.or (lQ fun _ _ _=>cA.mpr rfl) (gT.or FH FF)
def rX:En→Rv→Rv→Option Rv:=fun e x y=>match cU e x,bW y with
  | some (false,[d]),some k=>if 0≤k∧k≤100000 then some (.d (.tuple (PX k.toNat d))) else none
  | _,_=>none
theorem aT.rep{F:Hp}{d:PD}{v:V}(h:DA K F d v):∀n,aT K F (PX n d) (PX n v)
  | 0=>aT.nil
  | n+1=>aT.cons h (aT.rep h n)
theorem HD:gT K (BB K) rX:=by
  intro σ H0 F H e x y z v u Q R A B hg q
  unfold rX at hg
  match h1:cU e x,h2:bW y,hg with
  | some (false,[d]),some k,hg=>
    obtain⟨p,vs,rfl,d1,s1⟩:=cV R A h1
    dsimp only at hg
    split at hg
    case isFalse=>cases hg
    case isTrue hl=>
    cases hg
    have hd:=d1
    simp only [aT] at hd
    obtain⟨w,r,e1,hw,e2⟩:=hd
    subst e2 e1
    refine⟨p,k,w,rfl,cF B h2,s1,hl.1,hl.2,fun t H' sm hT=>?_⟩
    obtain⟨F',R',X',hF⟩:=R.growT sm hT
    exact q F' H' _ X' R' (eC.mpr ⟨t,_,rfl,hF,(aT.rep hw _).mono X'.sf⟩)
def rW:En→Rv→Rv→Option Rv:=fun e x y=>(xc e x).bind fun xs=>(bW y).bind fun k=>if -100000≤k∧k≤100000∧xs.length*k.toNat≤1000000 then some (.l (PX k.toNat xs).flatten) else none
theorem aT.reps{F:Hp}{ds:List PD}{vs:List V}(h:aT K F ds vs):∀n,aT K F (PX n ds).flatten (PX n vs).flatten
  | 0=>aT.nil
  | n+1=>by simpa [Sg] using aT.append h (aT.reps h n)
theorem HC:gT K HA rW:=by
  intro σ H0 F H e x y z v u Q R A B hg q
  unfold rW at hg
  obtain⟨xs,h1,hg⟩:=Pr hg
  obtain⟨k,h2,hg⟩:=Pr hg
  split at hg
  case isFalse=>cases hg
  case isTrue hl=>
  cases hg
  obtain⟨p,vs,rfl,f1,s1,d1⟩:=ua R A h1
  have l1:=d1.len
  have sl:PY=16777216:=QC
  refine⟨p,k,vs,rfl,cF B h2,s1,by lia,by lia,by rw [←l1];lia,fun t ht=>?_⟩
  obtain⟨R3,X3,hF,no⟩:=R.newL (vs:=(PX k.toNat vs).flatten) ht
  exact q _ _ _ X3 R3 ⟨t,_,rfl,ht,hF,aM,aT.reps d1 _,no⟩
def lm:En→Rv→Rv→Option Rv:=Cp u9 (Cp rX rW)
def E_(K:PF):R2:=fun x y H Q=>rI xQ (fun i j=>.int (i*j)) x y H Q∨(BB K x y H Q∨HA x y H Q)
theorem Dr:iH X (Qt .Mult) (E_ X.K):=Ds.or (Dw.or G1)
theorem ym:gT K (E_ K) lm:=gT.or GF (gT.or HD HC)
def wK:=gI (fun _ _=>true) fun i j=>.bool (decide (i < j))
def Ml:=gI (fun _ _=>true) fun i j=>.bool (decide (i≤j))
def Co:=gI (fun _ _=>true) fun i j=>.bool (decide (j < i))
def Cn:=gI (fun _ _=>true) fun i j=>.bool (decide (j≤i))
theorem Le:gT K (zA fun i j=>.bl (decide (i < j))) wK:=lQ fun _ _ _=>ef.mpr rfl
theorem K5:gT K (zA fun i j=>.bl (decide (j < i))) Co:=lQ fun _ _ _=>ef.mpr rfl
theorem K4:gT K (zA fun i j=>.bl (decide (j≤i))) Cn:=lQ fun _ _ _=>ef.mpr rfl
def Hy(K:PF)(neg:Bool):R2:=fun x y H Q=>∃a b,DA K H a x∧DA K H b y∧QF a=true∧QF b=true∧Q (.bl (if neg then !PyData.eqv a b else QY a b)) H
theorem GT{k:Nat}(hr:cg k X.A):iH X (QB .Eq) (Hy X.K false):=by
  intro pins s σ H x y v u Q I rx ry h
  obtain⟨a,b,ha,hb,s1,s2,q⟩:=h
  obtain⟨as,ra⟩:=DA.reads I (TY s1) ha rx
  obtain⟨bs,rb⟩:=DA.reads I (TY s2) hb ry
  exact SeqAt.compareEq_shaped ra rb s1 s2 hr.units ⟨.bl _,H,I,rfl,q⟩
theorem GZ{k:Nat}(hr:cg k X.A):iH X (QB .NotEq) (Hy X.K true):=by
  intro pins s σ H x y v u Q I rx ry h
  obtain⟨a,b,ha,hb,s1,s2,q⟩:=h
  obtain⟨as,ra⟩:=DA.reads I (TY s1) ha rx
  obtain⟨bs,rb⟩:=DA.reads I (TY s2) hb ry
  exact SeqAt.compareNe_shaped ra rb s1 s2 hr.units ⟨.bl _,H,I,rfl,q⟩
def bH(neg:Bool):En→Rv→Rv→Option Rv:=fun e x y=>(ix e x).bind fun a=>(ix e y).bind fun b=>if (QF a&&QF b)=true then some (.d (.bool (if neg then !PyData.eqv a b else QY a b))) else none
theorem EK{neg:Bool}:gT K (Hy K neg) (bH neg):=by
  intro σ H0 F H e x y z v u Q R A B hg q
  unfold bH at hg
  obtain⟨a,h1,hg⟩:=Pr hg
  obtain⟨b,h2,hg⟩:=Pr hg
  split at hg
  case isFalse=>cases hg
  case isTrue hl=>
  cases hg
  rw [QD] at hl
  exact⟨a,b,j_ R A h1,j_ R B h2,hl.1,hl.2,q F H _ (dY.refl _ _ _ _) R fj⟩
def Hz(K:PF)(neg:Bool):R2:=fun x y H Q=>∃a xs,DA K H a x∧(DA K H (.list xs) y∨DA K H (.tuple xs) y)∧a.canLay0=true∧a.depth≤60∧QW xs=true∧Q (.bl (if neg then !(xs.any fun y=>QY y a) else xs.any fun y=>QY y a)) H
theorem GU{k:Nat}(hr:cg k X.A):iH X (QB .In) (Hz X.K false):=by
  intro pins s σ H x y v u Q I rx ry h
  obtain⟨a,xs,ha,hb,s1,s2,s3,q⟩:=h
  obtain⟨as,ra⟩:=DA.reads I s1 ha rx
  have hu:=hr.units
  rcases hb with hb | hb
  · obtain⟨bs,rb⟩:=DA.reads I (by simpa [Qr] using s3) hb ry
    exact PySem.SeqAt.in_list_reads rb ra s3 s1 (by lia) ⟨.bl _,H,I,rfl,q⟩
  · obtain⟨bs,rb⟩:=DA.reads I (by simpa [Qr] using s3) hb ry
    exact PySem.SeqAt.in_tuple_reads rb ra s3 s1 (by lia) ⟨.bl _,H,I,rfl,q⟩
theorem zw{k:Nat}(hr:cg k X.A):iH X (QB .NotIn) (Hz X.K true):=by
  intro pins s σ H x y v u Q I rx ry h
  obtain⟨a,xs,ha,hb,s1,s2,s3,q⟩:=h
  obtain⟨as,ra⟩:=DA.reads I s1 ha rx
  have hu:=hr.units
  rcases hb with hb | hb
  · obtain⟨bs,rb⟩:=DA.reads I (by simpa [Qr] using s3) hb ry
    exact PySem.SeqAt.notIn_list_reads rb ra s3 s1 (by lia) ⟨.bl _,H,I,rfl,q⟩
  · obtain⟨bs,rb⟩:=DA.reads I (by simpa [Qr] using s3) hb ry
    exact PySem.SeqAt.notIn_tuple_reads rb ra s3 s1 (by lia) ⟨.bl _,H,I,rfl,q⟩
def nD(neg:Bool):En→Rv→Rv→Option Rv:=fun e x y=>(ix e x).bind fun a=>(cU e y).bind fun p=>if (a.canLay0&&decide (a.depth≤60)&&QW p.2)=true then some (.d (.bool (if neg then !(p.2.any fun y=>QY y a) else p.2.any fun y=>QY y a))) else none
theorem IQ{neg:Bool}:gT K (Hz K neg) (nD neg):=by
  intro σ H0 F H e x y z v u Q R A B hg q
  unfold nD at hg
  obtain⟨a,h1,hg⟩:=Pr hg
  obtain⟨⟨b,xs⟩,h2,hg⟩:=Pr hg
  split at hg
  case isFalse=>cases hg
  case isTrue hl=>
  cases hg
  rw [QD,QD,decide_eq_true_iff] at hl
  obtain⟨p,vs,rfl,d1,s1⟩:=cV R B h2
  refine⟨a,xs,j_ R A h1,?_,hl.1.1,hl.1.2,hl.2,q F H _ (dY.refl _ _ _ _) R fj⟩
  cases b with
  | true=>exact .inl (gF.mpr ⟨p,vs,rfl,s1,d1.mono R.sm⟩)
  | false=>exact .inr (eC.mpr ⟨p,vs,rfl,s1,d1.mono R.sm⟩)
def tU:PD→Bool
  | .none=>true
  | _=>false
theorem rP{F:Hp}{d:PD}{v:V}(h:DA K F d v):decide (v=.non)=tU d:=by
  cases d with
  | none=>rw [gW.mp h];rfl
  | bool b=>rw [ef.mp h];rfl
  | int b=>rw [cA.mp h];rfl
  | str b=>rw [jy.mp h];rfl
  | tuple b=>obtain⟨a,_,e,_⟩:=eC.mp h;rw [e];rfl
  | list b=>obtain⟨a,_,e,_⟩:=gF.mp h;rw [e];rfl
  | dict b=>simp only [DA] at h;obtain⟨a,m,rfl,_⟩:=h;rfl
def y'(neg:Bool):En→Rv→Rv→Option Rv:=fun e x y=>(ix e x).bind fun a=>match y with
  | .d .none=>some (.d (.bool (if neg then !tU a else tU a)))
  | _=>none
def y_(neg:Bool):En→Rv→Rv→Option Rv:=fun e x y=>(dm x).bind fun a=>(dm y).bind fun b=>some (.d (.bool (if neg then !(a==b) else a==b)))
theorem IT:gT K (fun x y H Q=>y=.non∧Q (.bl (decide (x=.non))) H) (y' false):=by
  intro σ H0 F H e x y z v u Q R A B hg q
  unfold y' at hg
  obtain⟨a,h1,hg⟩:=Pr hg
  split at hg
  · cases hg
    refine⟨gW.mp (show DA K F .none u from B),?_⟩
    rw [rP (j_ R A h1)]
    exact q F H _ (dY.refl _ _ _ _) R fj
  · cases hg
theorem GJ:gT K (fun x y H Q=>y=.non∧Q (.bl (!decide (x=.non))) H) (y' true):=by
  intro σ H0 F H e x y z v u Q R A B hg q
  unfold y' at hg
  obtain⟨a,h1,hg⟩:=Pr hg
  split at hg
  · cases hg
    refine⟨gW.mp (show DA K F .none u from B),?_⟩
    rw [rP (j_ R A h1)]
    exact q F H _ (dY.refl _ _ _ _) R fj
  · cases hg
theorem IS:gT K (fun x y H Q=>∃b c,x=.bl b∧y=.bl c∧Q (.bl (b==c)) H) (y_ false):=by
  intro σ H0 F H e x y z v u Q R A B hg q
  unfold y_ at hg
  obtain⟨a,h1,hg⟩:=Pr hg
  obtain⟨b,h2,hg⟩:=Pr hg
  cases hg
  exact⟨a,b,h_ A h1,h_ B h2,q F H _ (dY.refl _ _ _ _) R fj⟩
theorem Ap:gT K (fun x y H Q=>∃b c,x=.bl b∧y=.bl c∧Q (.bl (!(b==c))) H) (y_ true):=by
  intro σ H0 F H e x y z v u Q R A B hg q
  unfold y_ at hg
  obtain⟨a,h1,hg⟩:=Pr hg
  obtain⟨b,h2,hg⟩:=Pr hg
  cases hg
  exact⟨a,b,h_ A h1,h_ B h2,q F H _ (dY.refl _ _ _ _) R fj⟩
def Ih:En→Rv→Rv→Option Rv:=Cp (y' false) (y_ false)
def lK:En→Rv→Rv→Option Rv:=Cp (y' true) (y_ true)
def JD:R2:=fun x y H Q=>(y=.non∧Q (.bl (decide (x=.non))) H)∨∃b c,x=.bl b∧y=.bl c∧Q (.bl (b==c)) H
def yB:R2:=fun x y H Q=>(y=.non∧Q (.bl (!decide (x=.non))) H)∨∃b c,x=.bl b∧y=.bl c∧Q (.bl (!(b==c))) H
theorem GV:iH X (QB .Is) JD:=GX.or GW
theorem zu:iH X (QB .IsNot) yB:=Dv.or zv
theorem K9:gT K JD Ih:=gT.or IT IS
theorem CQ:gT K yB lK:=gT.or GJ Ap
def dC:En→Rv→Rv→Option Rv:=fun e x y=>(cU e x).bind fun p=>(bW y).bind fun i=>(atI p.2 i).map .d
def JE(K:PF):R2:=fun x y H Q=>JF K x y H Q∨JH K x y H Q
theorem I0:Cf X (JE X.K):=CS.or FZ
theorem aT.atI{F:Hp}{ds:List PD}{vs:List V}(h:aT K F ds vs){i:Int}{d:PD}(q:atI ds i=some d):∃v,L2.atI vs i=some v∧DA K F d v:=by
  unfold L2.atI at q ⊢
  obtain⟨j,h1,h2⟩:=Pr q
  obtain⟨v,h3,h4⟩:=h.get h2
  exact⟨v,by rw [←h.len,h1];exact h3,h4⟩
theorem I_:gT K (JE K) dC:=by
  intro σ H0 F H e x y z v u Q R A B hg q
  unfold dC at hg
  obtain⟨⟨b,xs⟩,h1,hg⟩:=Pr hg
  obtain⟨i,h2,hg⟩:=Pr hg
  obtain⟨d,h3,hg⟩:=Pt hg
  cases hg
  obtain⟨p,vs,rfl,d1,s1⟩:=cV R A h1
  obtain⟨w,h4,h5⟩:=d1.atI h3
  have fin:=q F H w (dY.refl _ _ _ _) R h5
  cases b with
  | true=>exact .inl ⟨p,vs,i,w,rfl,cF B h2,s1,h4,fin⟩
  | false=>exact .inr ⟨p,vs,i,w,rfl,cF B h2,s1,h4,fin⟩
end
end L2
namespace HT
open PySem PySem.Spec PyProof.Rows
section
variable{prog:PK}{w:PJ}{A:PP}{E:MG→PB→Prop}{s:PB}
theorem getItem_tuple_all{t sl:xM}{items:Array MG}{vl vu:MG}{lo hi:Option Int}{Q:MG→PB→Prop}(ht:IsTup s.heap t items)(hs:s.heap.IsSliceOf sl vl vu .none)(pl:IsPart vl lo)(pu:IsPart vu hi)
    (hw:sIx items.size 0 lo=0∧sIx items.size items.size hi=items.size)
    (h:Q (.ref t) s):PM (PQ prog w) A (getItem (.ref t) (.ref sl)) Q E s:=by
  obtain⟨os,hos,hcs,hds⟩:=id hs
  have hTs:s.TypeIs (.ref sl) "slice":=⟨os,hos,hcs⟩
  unfold getItem
  try with_reducible refine Ry ?_
  first | refine PR (Qa ?_) | skip
  refine PR (wpAny_sequenceKey ht.typeIs (by decide) ?_)
  refine PR (wpAny_callSpecial?_slot (name:=Pz "__getitem__") ht.typeIs Ss
    (wpAny_call_entry Ss ht.typeIs entry_tuple_getitem ?_ (args_tuple_getitem _ _)))
  show PM _ _ (UM (.ref t) >>= _) _ _ s
  refine PR (tupleItemsOf_ ht ?_)
  refine PR (wpAny_typeOf hTs ?_)
  rw [if_pos (by decide)]
  refine PR (jm hs pl pu ?_)
  have hno:(((sIx items.size 0 lo:Nat):Int)==0&&(1:Int)==1&&(sIx items.size items.size hi - sIx items.size 0 lo)==items.size)=true:=by
    rw [hw.1,hw.2];simp
  show PM _ _ (if (((sIx items.size 0 lo:Nat):Int)==0&&(1:Int)==1&&(sIx items.size items.size hi - sIx items.size 0 lo)==items.size)=true then _ else _) _ _ s
  rw [if_pos hno]
  unfold Builtin.Tuple.tupleIsExact
  refine PR (PR (wpAny_typeOf ht.typeIs (Qa ?_)))
  rw [if_pos (by decide)]
  exact PR (wpAny_rule (Qa ⟨_,rfl,Qa h⟩))
end
end HT
namespace L2
open PySem PySem.Spec PyProof.Rows
section
variable{X:Cx}{K:PF}{a:PH}{fa:FE}{lo hi:Option PH}{pos p2:Pos}
def cutD(xs:List PD)(lo hi:Option Int):List PD:=(xs.drop (HT.sIx xs.length 0 lo)).take (HT.sIx xs.length xs.length hi - HT.sIx xs.length 0 lo)
def JM(K:PF):V→Option Int→Option Int→Hp→VK→Prop:=fun x lo hi H Q=>∃a xs,x=.ref a∧fB K H a xs∧
  (HT.sIx xs.length 0 lo=0∧HT.sIx xs.length xs.length hi=xs.length)∧Q (.ref a) H
theorem Ea:Ci X (JM X.K):=by
  intro pins s σ H x v vl vu lo hi sl Q I rx hs pl pu h
  obtain⟨a,xs,rfl,hx,hw,q⟩:=h
  cases rx
  obtain⟨its,r,ht,hz⟩:=I.tuple hx
  have hlen:its.toArray.size=xs.length:=by rw [Qj];exact r.length.symm
  refine⟨"tuple",_,Ss.lookup,ht.typeIs,?_⟩
  exact HT.getItem_tuple_all ht hs pl pu (by rw [hlen];exact hw) ⟨.ref a,H,I,rfl,q⟩
def Lh(K:PF):V→Option Int→Option Int→Hp→VK→Prop:=fun x lo hi H Q=>JK K x lo hi H Q∨(JM K x lo hi H Q∨JJ K x lo hi H Q)
theorem JT:Ci X (Lh X.K):=HG.or (Ea.or D')
abbrev FO:=En→Option (Option Int × En)
def fO(K:PF)(f:FO):TO:=fun σ H Q=>∃F e o e',bj K F H σ e∧f e=some (o,e')∧∀F' H',dY σ F H e F' H' e'→bj K F' H' σ e'→Q o H'
theorem PO.mono{e:Option PH}{t t':TO}(h:PO X e t)(m:∀σ H Q,t' σ H Q→t σ H Q):PO X e t':=fun pins s σ H Q I q=>h pins s σ H Q I (m σ H Q q)
def bC:FO:=fun e=>some (none,e)
def bx(f:FE):FO:=fun e=>(f e).bind fun p=>(bW p.1).map fun i=>(some i,p.2)
theorem df:PO X none (fO K bC):=DM.mono fun σ H Q h=>by
  obtain⟨F,e,o,e',R,hf,q⟩:=h
  cases hf
  exact q F H (dY.refl _ _ _ _) R
theorem dg(h:PE X a (fE K fa)):PO X (some a) (fO K (bx fa)):=(DN h).mono fun σ H Q h=>by
  obtain⟨F,e,o,e',R,hf,q⟩:=h
  unfold bx at hf
  obtain⟨⟨x,e1⟩,h1,hf⟩:=Pr hf
  obtain⟨i,h2,hf⟩:=Pt hf
  cases hf
  exact⟨F,e,x,_,R,h1,fun F1 H1 v X1 R1 A1=>⟨i,cF A1 h2,q F1 H1 X1 R1⟩⟩
def CL(e:En)(x:Rv)(lo hi:Option Int):Option Rv:=(cU e x).map fun p=>if p.1=true then .l (cutD p.2 lo hi) else .d (.tuple (cutD p.2 lo hi))
def uB(fa:FE)(fl fh:FO):FE:=fun e=>(fa e).bind fun p=>(fl p.2).bind fun l=>(fh l.2).bind fun h=>(CL h.2 p.1 l.1 h.1).map fun z=>(z,h.2)
theorem tL{F:Hp}{ds:List PD}{vs:List V}(h:aT K F ds vs)(lo hi:Option Int):aT K F (cutD ds lo hi) (o5 vs lo hi):=by
  unfold cutD o5
  rw [h.len]
  exact(h.drop _).take _
theorem x9{α:Type}{xs:List α}{lo hi:Option Int}(h:HT.sIx xs.length 0 lo=0∧HT.sIx xs.length xs.length hi=xs.length):(xs.drop (HT.sIx xs.length 0 lo)).take (HT.sIx xs.length xs.length hi - HT.sIx xs.length 0 lo)=xs:=by
  rw [h.1,h.2];simp
theorem Bs{fl fh:FO}(he:PE X a (fE X.K fa))(hl:PO X lo (fO X.K fl))(hh:PO X hi (fO X.K fh)):PE X (.Subscript a (.Slice lo hi none p2) pos) (fE X.K (uB fa fl fh)):=(qh JT he hl hh).mono fun σ H Q h=>by
  obtain⟨F,e,z,e',R,hf,q⟩:=h
  unfold uB at hf
  obtain⟨⟨x,e1⟩,h1,hf⟩:=Pr hf
  obtain⟨⟨l,e2⟩,h2,hf⟩:=Pr hf
  obtain⟨⟨u,e3⟩,h3,hf⟩:=Pr hf
  obtain⟨z',h4,hf⟩:=Pt hf
  cases hf
  refine⟨F,e,x,e1,R,h1,fun F1 H1 v X1 R1 A1=>⟨F1,e1,l,e2,R1,h2,fun F2 H2 X2 R2=>⟨F2,e2,u,_,R2,h3,fun F3 H3 X3 R3=>?_⟩⟩⟩
  have X12:=X1.trans X2
  have X13:=X12.trans X3
  have A3:=(A1.ext X2).ext X3
  unfold CL at h4
  obtain⟨⟨b,xs⟩,h5,h4⟩:=Pt h4
  obtain⟨p,vs,rfl,d1,s1⟩:=cV R3 A3 h5
  cases b with
  | true=>
    rw [if_pos rfl] at h4;cases h4
    refine .inr (.inr ⟨p,vs,rfl,s1,fun t ht=>?_⟩)
    obtain⟨R4,X4,hF,no⟩:=R3.newL (vs:=o5 vs l u) ht
    exact q _ _ _ (X13.trans X4) R4 ⟨t,_,rfl,X13.dom _ ht,hF,aM,tL d1 l u,no⟩
  | false=>
    rw [if_neg (by simp)] at h4;cases h4
    by_cases hw:HT.sIx vs.length 0 l=0∧HT.sIx vs.length vs.length u=vs.length
    · refine .inr (.inl ⟨p,vs,rfl,s1,hw,?_⟩)
      have e5:cutD xs l u=xs:=by unfold cutD;exact x9 (by rw [d1.len];exact hw)
      rw [e5] at q
      obtain⟨F4,R4,X4,hF⟩:=R3.growT (ax.refl _) s1
      exact q _ _ _ (X13.trans X4) R4 (eC.mpr ⟨p,vs,rfl,hF,d1.mono X4.sf⟩)
    · refine .inl ⟨p,vs,rfl,s1,hw,fun t ht=>?_⟩
      obtain⟨R4,X4⟩:=R3.newT (vs:=o5 vs l u) ht
      exact q _ _ _ (X13.trans X4) R4 (eC.mpr ⟨t,_,rfl,.inl (.inl aM),(tL d1 l u).mono X4.sf⟩)
end
section
variable{X:Cx}{K:PF}
theorem uq{σ:L2.St}{H0 F H:Hp}{e:En}{x:Rv}{vs:List V}(h:eF K σ H0 F H e [x] vs):∃v,vs=[v]∧cK K σ H0 F H e x v:=by
  obtain⟨v,ws,rfl,h1,h2⟩:=h
  have h2':ws=[]:=h2
  subst h2'
  exact⟨v,rfl,h1⟩
theorem yD{σ:L2.St}{H0 F H:Hp}{e:En}{x y:Rv}{vs:List V}(h:eF K σ H0 F H e [x,y] vs):∃v u,vs=[v,u]∧cK K σ H0 F H e x v∧cK K σ H0 F H e y u:=by
  obtain⟨v,ws,rfl,h1,h2⟩:=h
  obtain⟨u,rfl,h3⟩:=uq h2
  exact⟨v,u,rfl,h1,h3⟩
def g1(g:En→Rv→Option Rv):En→List Rv→Option Rv:=fun e xs=>match xs with
  | [x]=>g e x
  | _=>none
def g2(g:En→Rv→Rv→Option Rv):En→List Rv→Option Rv:=fun e xs=>match xs with
  | [x,y]=>g e x y
  | _=>none
theorem fU{r:List V→Hp→VK→Prop}{g:En→Rv→Option Rv}(h:Ig K (fun v H Q=>r [v] H Q) g):dS K r (g1 g):=by
  intro σ H0 F H e xs z vs Q R A hg q
  unfold g1 at hg
  match xs,hg with
  | [x],hg=>
    obtain⟨v,rfl,h1⟩:=uq A
    exact h σ H0 F H e x z v Q R h1 hg q
theorem x6{r:List V→Hp→VK→Prop}{g:En→Rv→Rv→Option Rv}(h:gT K (fun v u H Q=>r [v,u] H Q) g):dS K r (g2 g):=by
  intro σ H0 F H e xs z vs Q R A hg q
  unfold g2 at hg
  match xs,hg with
  | [x,y],hg=>
    obtain⟨v,u,rfl,h1,h2⟩:=yD A
    exact h σ H0 F H e x y z v u Q R h1 h2 hg q
def dJ:En→Rv→Option Rv:=fun e x=>(cU e x).map fun p=>.d (.int p.2.length)
theorem Jc:dS K (fun xs H Q=>∃p ys,xs=[.ref p]∧(iJ K H p ys∨fB K H p ys)∧Q (.int ys.length) H) (g1 dJ):=fU fun σ H0 F H e x z v Q R A hg q=>by
  obtain⟨⟨b,xs⟩,h5,h4⟩:=Pt hg
  obtain⟨p,vs,rfl,d1,s1⟩:=cV R A h5
  cases h4
  refine⟨p,vs,rfl,?_,?_⟩
  · cases b with
    | true=>exact .inl s1
    | false=>exact .inr s1
  · rw [←d1.len]
    exact q F H _ (dY.refl _ _ _ _) R qt
def y9:En→Rv→Option Rv:=fun _ x=>(bW x).map fun i=>.d (.int (if i < 0 then -i else i))
theorem Ir:dS K (fun xs H Q=>∃i,xs=[.int i]∧Q (.int (if i < 0 then -i else i)) H) (g1 y9):=fU fun σ H0 F H e x z v Q R A hg q=>by
  obtain⟨i,h5,h4⟩:=Pt hg
  cases h4
  exact⟨i,by rw [cF A h5],q F H _ (dY.refl _ _ _ _) R qt⟩
def q_:En→Rv→Option Rv:=fun _ x=>match x with
  | .d (.int i)=>some (.d (.int i))
  | .d (.bool k)=>some (.d (.int (if k then 1 else 0)))
  | _=>none
theorem IR:dS K (fun xs H Q=>(∃i,xs=[.int i]∧Q (.int i) H)∨∃k,xs=[.bl k]∧Q (.int (if k then 1 else 0)) H) (g1 q_):=fU fun σ H0 F H e x z v Q R A hg q=>by
  unfold q_ at hg
  split at hg
  · cases hg
    exact .inl ⟨_,by rw [cA.mp (show DA K F (.int _) v from A)],q F H _ (dY.refl _ _ _ _) R qt⟩
  · cases hg
    exact .inr ⟨_,by rw [ef.mp (show DA K F (.bool _) v from A)],q F H _ (dY.refl _ _ _ _) R qt⟩
  · cases hg
def Ai:=gI (fun _ _=>true) fun i j=>.int (if j < i then j else i)
def zb:=gI (fun _ _=>true) fun i j=>.int (if j > i then j else i)
theorem Jk:dS K (fun xs H Q=>∃i j,xs=[.int i,.int j]∧Q (.int (if j < i then j else i)) H) (g2 Ai):=x6 fun σ H0 F H e x y z v u Q R A B hg q=>by
  obtain⟨i,j,h1,h2,h3⟩:=lQ (K:=K) (g:=fun i j=>.int (if j < i then j else i)) (fun _ _ _=>cA.mpr rfl) σ H0 F H e x y z v u Q R A B hg q
  exact⟨i,j,by rw [h1,h2],h3⟩
theorem Jj:dS K (fun xs H Q=>∃i j,xs=[.int i,.int j]∧Q (.int (if j > i then j else i)) H) (g2 zb):=x6 fun σ H0 F H e x y z v u Q R A B hg q=>by
  obtain⟨i,j,h1,h2,h3⟩:=lQ (K:=K) (g:=fun i j=>.int (if j > i then j else i)) (fun _ _ _=>cA.mpr rfl) σ H0 F H e x y z v u Q R A B hg q
  exact⟨i,j,by rw [h1,h2],h3⟩
def eZ:En→Rv→Option Rv:=fun e x=>(cU e x).map fun p=>.d (.tuple p.2)
theorem Em:dS K (fun xs H Q=>∃p ys,xs=[.ref p]∧((iJ K H p ys∧∀l,H l=none→Q (.ref l) (cy H l (.tup ys)))∨(fB K H p ys∧Q (.ref p) H))) (g1 eZ):=fU fun σ H0 F H e x z v Q R A hg q=>by
  obtain⟨⟨b,xs⟩,h5,h4⟩:=Pt hg
  obtain⟨p,vs,rfl,d1,s1⟩:=cV R A h5
  cases h4
  refine⟨p,vs,rfl,?_⟩
  cases b with
  | true=>
    refine .inl ⟨s1,fun t ht=>?_⟩
    obtain⟨R4,X4⟩:=R.newT (vs:=vs) ht
    exact q _ _ _ X4 R4 (eC.mpr ⟨t,_,rfl,.inl (.inl aM),d1.mono X4.sf⟩)
  | false=>
    obtain⟨F4,R4,X4,hF⟩:=R.growT (ax.refl _) s1
    exact .inr ⟨s1,q _ _ _ X4 R4 (eC.mpr ⟨p,vs,rfl,hF,d1.mono X4.sf⟩)⟩
def EM:En→Rv→Option Rv:=fun e x=>(cU e x).map fun p=>.l p.2
theorem GA:dS K (fun xs H Q=>∃p ys,xs=[.ref p]∧(iJ K H p ys∨fB K H p ys)∧∀l,H l=none→Q (.ref l) (cy H l (.lst ys))) (g1 EM):=fU fun σ H0 F H e x z v Q R A hg q=>by
  obtain⟨⟨b,xs⟩,h5,h4⟩:=Pt hg
  obtain⟨p,vs,rfl,d1,s1⟩:=cV R A h5
  cases h4
  refine⟨p,vs,rfl,?_,fun t ht=>?_⟩
  · cases b with
    | true=>exact .inl s1
    | false=>exact .inr s1
  · obtain⟨R4,X4,hF,no⟩:=R.newL (vs:=vs) ht
    exact q _ _ _ X4 R4 ⟨t,_,rfl,ht,hF,aM,d1,no⟩
def rZ:List PD→Option (List Int)
  | []=>some []
  | .int i::r=>(rZ r).map (i::·)
  | _=>none
theorem pW:∀{ds:List PD} {ns:List Int},rZ ds=some ns→ds=ns.map .int
  | [],_,h=>by cases h;rfl
  | .int i::r,_,h=>by
    obtain⟨ns,h1,rfl⟩:=Pt h
    rw [pW h1];rfl
theorem nL:∀(ns:List Int),rZ (ns.map .int)=some ns
  | []=>rfl
  | i::r=>by simp [rZ,nL r]
def tu:List PD→Option (List Bool)
  | []=>some []
  | .bool i::r=>(tu r).map (i::·)
  | _=>none
theorem rN:∀{ds:List PD} {ns:List Bool},tu ds=some ns→ds=ns.map .bool
  | [],_,h=>by cases h;rfl
  | .bool i::r,_,h=>by
    obtain⟨ns,h1,rfl⟩:=Pt h
    rw [rN h1];rfl
def i7(g:List PD→Option PD):En→Rv→Option Rv:=fun e x=>match cU e x with
  | some (true,xs)=>(g xs).map .d
  | _=>none
theorem BW{r:List V→Hp→VK→Prop}{g:List PD→Option PD}(h:∀(F H:Hp) (p:xM) (xs:List PD) (vs:List V) (d:PD) (Q:VK),aT K F xs vs→iJ K H p vs→g xs=some d→(∀v,(∀F,DA K F d v)→Q v H)→r [.ref p] H Q):dS K r (g1 (i7 g)):=fU fun σ H0 F H e x z v Q R A hg q=>by
  unfold i7 at hg
  split at hg
  case h_2=>cases hg
  case h_1 xs h5=>
  obtain⟨p,vs,rfl,d1,s1⟩:=cV R A h5
  obtain⟨d,h6,hg⟩:=Pt hg
  cases hg
  exact h F H p xs vs d Q d1 s1 h6 fun v hv=>q F H v (dY.refl _ _ _ _) R (hv F)
def rY:List PD→Option PD:=fun xs=>(rZ xs).map fun ns=>.int ns.sum
theorem JX:dS K (fun xs H Q=>∃(l:xM) (ns:List Int),xs=[.ref l]∧iJ K H l (ns.map V.int)∧Q (.int ns.sum) H) (g1 (i7 rY)):=BW fun F H p xs vs d Q d1 s1 hg q=>by
  obtain⟨ns,h1,h2⟩:=Pt hg
  cases h2
  rw [pW h1] at d1
  rw [aT.ints.mp d1] at s1
  exact⟨p,ns,rfl,s1,q _ fun _=>cA.mpr rfl⟩
def uY:List PD→Option PD:=fun xs=>(tu xs).map fun ns=>.bool (ns.all id)
theorem Iu:dS K (fun xs H Q=>∃(l:xM) (bs:List Bool),xs=[.ref l]∧iJ K H l (bs.map V.bl)∧Q (.bl (bs.all id)) H) (g1 (i7 uY)):=BW fun F H p xs vs d Q d1 s1 hg q=>by
  obtain⟨ns,h1,h2⟩:=Pt hg
  cases h2
  rw [rN h1] at d1
  rw [aT.bools.mp d1] at s1
  exact⟨p,ns,rfl,s1,q _ fun _=>ef.mpr rfl⟩
def fF:En→Rv→Option Rv:=fun e x=>match cU e x with
  | some (false,xs)=>(rZ xs).bind fun ns=>if ns.length < 64 then some (.l ((jn ns).map .int)) else none
  | _=>none
def BC(K:PF):List V→Hp→VK→Prop:=fun xs H Q=>∃(a:xM) (ns:List Int),xs=[.ref a]∧fB K H a (ns.map V.int)∧ns.length < 64∧∀(l:xM) (H':Hp),ax H H'→H l=none→H' l=some (.lst ((jn ns).map V.int))→Q (.ref l) H'
theorem wG:dX X (.builtin "sorted") (BC X.K):=by
  intro pins s σ H xs us Q I rv h
  obtain⟨a,ns,e1,e2,e3,q⟩:=h
  exact uO pins s σ H xs us Q I rv ⟨a,ns,e1,e2,e3,fun l ns' H' sm hn hl hp hs=>q l H' sm hn (by rw [←B0 hp hs];exact hl)⟩
theorem Eb:dS K (BC K) (g1 fF):=fU fun σ H0 F H e x z v Q R A hg q=>by
  unfold fF at hg
  split at hg
  case h_2=>cases hg
  case h_1 xs h5=>
  obtain⟨p,vs,rfl,d1,s1⟩:=cV R A h5
  obtain⟨ns,h6,hg⟩:=Pr hg
  split at hg
  case isFalse=>cases hg
  case isTrue hl=>
  cases hg
  rw [pW h6] at d1
  have s1':fB K H p vs:=s1
  rw [aT.ints.mp d1] at s1'
  refine⟨p,ns,rfl,s1',hl,fun l H' sm hn hl'=>?_⟩
  obtain⟨R4,X4⟩:=R.same sm
  exact q F H' _ X4 R4 ⟨l,_,rfl,hn,R.freeF hn,hl',aT.ints.mpr rfl,fun z=>R.ownH l ((R.sameOwn sm l).mp z) hn⟩
mutual
def EL:PD→Bool
  | .tuple ds=>yd ds
  | .list _=>false
  | .dict _=>false
  | _=>true
def yd:List PD→Bool
  | []=>true
  | d::r=>EL d&&yd r
end
mutual
def AO:PD→Bool
  | .list _=>false
  | .tuple ds=>vo ds
  | _=>true
def vo:List PD→Bool
  | []=>true
  | d::r=>AO d&&vo r
end
end
section
variable{K:PF}{σ:L2.St}{H0 F H F' H':Hp}{e e':En}
theorem bj.upd1(R:bj K F H σ e){σ':L2.St}(i:Nat)(hl:σ'.length=e'.length)(hσ:∀j,j≠i→σ'[j]?=σ[j]?)(he:∀j,j≠i→e'[j]?=e[j]?)(sF:ax F F')(sm:ax F' H')(hf:∀j a,j≠i→Fp σ e H j a→F' a=none)
    (hh:∀j a o,j≠i→Fp σ e H j a→H a=some o→H' a=some o)(hd:∀x,e'[i]?=some (some (.d x))→∃v,σ'[i]?=some (some v)∧DA K F' x v)
    (ho:∀xs,e'[i]?=some (some (.l xs))→∃l vs,σ'[i]?=some (some (.ref l))∧F' l=none∧H' l=some (.lst vs)∧aT K F' xs vs)
    (hn:∀xss,e'[i]?=some (some (.n xss))→∃(l:xM) (bs:List xM),σ'[i]?=some (some (.ref l))∧F' l=none∧H' l=some (.lst (bs.map V.ref))∧bs.length=xss.length∧bs.Nodup∧l∉bs∧
      ∀(k:Nat) (b:xM) (ys:List PD),bs[k]?=some b→xss[k]?=some ys→F' b=none∧∃us,H' b=some (.lst us)∧aT K F' ys us)
    (hi:∀a j,j≠i→Fp σ' e' H' i a→¬Fp σ e H j a):bj K F' H' σ' e'∧∀j a,j≠i→(Fp σ' e' H' j a↔ Fp σ e H j a):=by
  have fs:∀j a,j≠i→(Fp σ' e' H' j a↔ Fp σ e H j a):=by
    intro j a hj
    have key:∀xss l,e[j]?=some (some (.n xss))→σ[j]?=some (some (.ref l))→H' l=H l:=fun xss l h1 h2=>by
      obtain⟨l',bs,g1,g2,g3,_⟩:=R.nst j xss h1
      rw [h2] at g1;cases g1
      rw [g3]
      exact hh j l _ hj (.inr ⟨xss,l,bs,h1,h2,g3,.inl rfl⟩) g3
    unfold Fp
    rw [he j hj,hσ j hj]
    constructor
    · rintro(h1 | ⟨xss,l,bs,h1,h2,h3,h4⟩)
      · exact .inl h1
      · exact .inr ⟨xss,l,bs,h1,h2,by rw [←key xss l h1 h2];exact h3,h4⟩
    · rintro(h1 | ⟨xss,l,bs,h1,h2,h3,h4⟩)
      · exact .inl h1
      · exact .inr ⟨xss,l,bs,h1,h2,by rw [key xss l h1 h2];exact h3,h4⟩
  refine⟨⟨sm,hl,fun j x q=>?_,fun j xs q=>?_,fun j xss q=>?_,fun j k a q1 q2=>?_⟩,fs⟩
  · by_cases z:j=i
    · subst z;exact hd x q
    · rw [he j z] at q
      obtain⟨v,h1,h2⟩:=R.dat j x q
      exact⟨v,by rw [hσ j z];exact h1,DA.mono sF h2⟩
  · by_cases z:j=i
    · subst z;exact ho xs q
    · rw [he j z] at q
      obtain⟨l,vs,h1,h2,h3,h4⟩:=R.own j xs q
      have o:Fp σ e H j l:=.inl ⟨xs,q,h1⟩
      exact⟨l,vs,by rw [hσ j z];exact h1,hf j l z o,hh j l _ z o h3,h4.mono sF⟩
  · by_cases z:j=i
    · subst z;exact hn xss q
    · rw [he j z] at q
      obtain⟨l,bs,h1,h2,h3,h4,h5,h6,h7⟩:=R.nst j xss q
      have o:Fp σ e H j l:=.inr ⟨xss,l,bs,q,h1,h3,.inl rfl⟩
      refine⟨l,bs,by rw [hσ j z];exact h1,hf j l z o,hh j l _ z o h3,h4,h5,h6,fun k b ys g1 g2=>?_⟩
      obtain⟨c1,us,c2,c3⟩:=h7 k b ys g1 g2
      have ob:Fp σ e H j b:=.inr ⟨xss,l,bs,q,h1,h3,.inr (Py g1)⟩
      exact⟨hf j b z ob,us,hh j b _ z ob c2,c3.mono sF⟩
  · by_cases zj:j=i
    · subst zj
      by_cases zk:k=j
      · exact zk.symm
      · exact absurd ((fs k a zk).mp q2) (hi a k zk q1)
    · by_cases zk:k=i
      · subst zk
        exact absurd ((fs j a zj).mp q1) (hi a j zj q2)
      · exact R.fp j k a ((fs j a zj).mp q1) ((fs k a zk).mp q2)
theorem bj.putL(R:bj K F H σ e){i:Nat}{xs ys:List PD}{l:xM}{vs:List V}(hi:e[i]?=some (some (.l xs)))(hl:σ[i]?=some (some (.ref l)))(hd:aT K F ys vs):
    bj K F (cy H l (.lst vs)) σ (e.set i (some (.l ys)))∧dY σ F H e F (cy H l (.lst vs)) (e.set i (some (.l ys))):=by
  obtain⟨l',vs',h1,h2,h3,h4⟩:=R.own i xs hi
  rw [hl] at h1;cases h1
  have hlt:i < e.length:=(Pu hi).1
  have fi:Fp σ e H i l:=.inl ⟨xs,hi,hl⟩
  have gi:(e.set i (some (Sv.l ys)))[i]?=some (some (.l ys)):=Ru hlt
  obtain⟨R',fs⟩:=R.upd1 (F':=F) (H':=cy H l (.lst vs)) (e':=e.set i (some (.l ys))) i (by rw [Sf];exact R.len) (fun _ _=>rfl) (fun j hj=>Ql (QN hj)) (ax.refl F)
    (fun b o q=>by
      have z:b≠l:=fun z=>by rw [z,h2] at q;cases q
      rw [aY z];exact R.sm b o q)
    (fun j a _ q=>(R.fpAt q).1)
    (fun j a o hj q ha=>by
      have z:a≠l:=fun z=>hj (R.fp j i a q (by rw [z];exact fi))
      rw [aY z];exact ha)
    (fun x q=>by rw [gi] at q;cases q) (fun zs q=>by rw [gi] at q;cases q;exact⟨l,vs,hl,h2,aM,hd⟩) (fun xss q=>by rw [gi] at q;cases q)
    (fun a j hj q q2=>by
      rcases q with ⟨zs,_,q⟩ | ⟨xss,_,_,q,_⟩
      · rw [hl] at q;cases q
        exact hj (R.fp j i _ q2 fi)
      · rw [gi] at q;cases q)
  refine⟨R',⟨ax.refl _,fun a q=>?_,fun _ _ q _ _=>q,fun a ws q=>?_,fun a o q n=>?_,fun j=>?_,fun a ⟨j,q⟩=>?_,fun _ _ q _ _=>q⟩⟩
  · by_cases z:a=l
    · rw [z,aM] at q;cases q
    · rw [aY z] at q;exact q
  · by_cases z:a=l
    · rw [z];exact⟨vs,aM⟩
    · rw [aY z];exact⟨ws,q⟩
  · have z:a≠l:=fun z=>n ⟨i,by rw [z];exact fi⟩
    rw [aY z];exact q
  · by_cases z:j=i
    · subst z;rw [gi];exact⟨fun _=>⟨xs,hi⟩,fun _=>⟨ys,rfl⟩⟩
    · rw [Ql (QN z)]
  · by_cases z:j=i
    · subst z
      rcases q with ⟨zs,_,q⟩ | ⟨xss,_,_,q,_⟩
      · rw [hl] at q;cases q;exact .inl ⟨j,fi⟩
      · rw [gi] at q;cases q
    · exact .inl ⟨j,(fs j a z).mp q⟩
theorem bj.setD(R:bj K F H σ e)(i:Nat){x:PD}{v:V}(h:DA K F x v):bj K F H (σ.set i (some v)) (e.set i (some (.d x)))∧∀a,cj (σ.set i (some v)) (e.set i (some (.d x))) H a→cj σ e H a:=by
  have gi:∀s,(e.set i (some (Sv.d x)))[i]?=some (some s)→s=.d x∧i < e.length:=fun s q=>by
    have hlt:i < e.length:=by have:=(Pu q).1;simpa using this
    rw [Ru hlt] at q
    exact⟨(QO (QO q)).symm,hlt⟩
  have nofp:∀a,¬Fp (σ.set i (some v)) (e.set i (some (.d x))) H i a:=fun a q=>by
    rcases q with ⟨zs,q,_⟩ | ⟨xss,_,_,q,_⟩
    · cases (gi _ q).1
    · cases (gi _ q).1
  obtain⟨R',fs⟩:=R.upd1 (F':=F) (H':=H) (σ':=σ.set i (some v)) (e':=e.set i (some (.d x))) i (by rw [Sf,Sf];exact R.len) (fun j hj=>Ql (QN hj)) (fun j hj=>Ql (QN hj)) (ax.refl F) R.sm
    (fun j a _ q=>(R.fpAt q).1) (fun j a o _ _ ha=>ha)
    (fun y q=>by
      obtain⟨z,hlt⟩:=gi _ q
      cases z
      exact⟨v,Ru (by rw [R.len];exact hlt),h⟩)
    (fun zs q=>by cases (gi _ q).1) (fun xss q=>by cases (gi _ q).1) (fun a j hj q=>absurd q (nofp a))
  refine⟨R',fun a ⟨j,q⟩=>?_⟩
  by_cases z:j=i
  · subst z;exact absurd q (nofp a)
  · exact⟨j,(fs j a z).mp q⟩
theorem bj.setL(R:bj K F H σ e)(i:Nat){xs:List PD}{l:xM}{vs:List V}(h1:F l=none)(h2:H l=some (.lst vs))(h3:aT K F xs vs)(h4:¬cj σ e H l):bj K F H (σ.set i (some (.ref l))) (e.set i (some (.l xs)))∧∀a,cj (σ.set i (some (.ref l))) (e.set i (some (.l xs))) H a→cj σ e H a∨a=l:=by
  have gi:∀s,(e.set i (some (Sv.l xs)))[i]?=some (some s)→s=.l xs∧i < e.length:=fun s q=>by
    have hlt:i < e.length:=by have:=(Pu q).1;simpa using this
    rw [Ru hlt] at q
    exact⟨(QO (QO q)).symm,hlt⟩
  have onefp:∀a,Fp (σ.set i (some (.ref l))) (e.set i (some (.l xs))) H i a→a=l:=fun a q=>by
    rcases q with ⟨zs,q,q2⟩ | ⟨xss,_,_,q,_⟩
    · obtain⟨_,hlt⟩:=gi _ q
      rw [Ru (by rw [R.len];exact hlt)] at q2
      cases q2;rfl
    · cases (gi _ q).1
  obtain⟨R',fs⟩:=R.upd1 (F':=F) (H':=H) (σ':=σ.set i (some (.ref l))) (e':=e.set i (some (.l xs))) i (by rw [Sf,Sf];exact R.len) (fun j hj=>Ql (QN hj)) (fun j hj=>Ql (QN hj)) (ax.refl F) R.sm
    (fun j a _ q=>(R.fpAt q).1) (fun j a o _ _ ha=>ha) (fun y q=>by cases (gi _ q).1)
    (fun zs q=>by
      obtain⟨z,hlt⟩:=gi _ q
      cases z
      exact⟨l,vs,Ru (by rw [R.len];exact hlt),h1,h2,h3⟩)
    (fun xss q=>by cases (gi _ q).1) (fun a j hj q q2=>h4 ⟨j,by rw [onefp a q] at q2;exact q2⟩)
  refine⟨R',fun a ⟨j,q⟩=>?_⟩
  by_cases z:j=i
  · subst z;exact .inr (onefp a q)
  · exact .inl ⟨j,(fs j a z).mp q⟩
end
section
variable{X:Cx}{K:PF}{o a:PH}{es:List PH}{fo:FE}{fs:FA}{name:Str}{apos cpos:Pos}{id:String}
def xR(K:PF)(r:V→List V→Hp→VK→Prop)(g:List PD→List PD→Option (PD × List PD)):Prop:=
  ∀(F H:Hp) (l:xM) (xs ys ds:List PD) (z:PD) (vs us:List V) (Q:VK),F l=none→ax F H→H l=some (.lst vs)→aT K F xs vs→aT K F ds us→g xs ds=some (z,ys)→
    (∀w ws,DA K F z w→aT K F ys ws→Q w (cy H l (.lst ws)))→r (.ref l) us H Q
def eO(g:List PD→List PD→Option (PD × List PD))(fo:FE)(fs:FA):FE:=fun e=>(fo e).bind fun p=>match p.1 with
  | .s i=>(fs p.2).bind fun q=>(gP q.1).bind fun ds=>match q.2[i]? with
    | some (some (.l xs))=>(g xs ds).map fun z=>(.d z.1,q.2.set i (some (.l z.2)))
    | _=>none
  | _=>none
theorem Ca{r:V→List V→Hp→VK→Prop}{g:List PD→List PD→Option (PD × List PD)}(hm:xR K r g){σ:L2.St}{H:Hp}{Q:VK}(h:fE K (eO g fo fs) σ H Q):LW K "list" r (fE K fo) (fA K fs) σ H Q:=by
  obtain⟨F,e,z,e',R,hf,q⟩:=h
  unfold eO at hf
  obtain⟨⟨x,e1⟩,h1,hf⟩:=Pr hf
  match x,h1,hf with
  | .s i,h1,hf=>
  dsimp only at hf
  obtain⟨⟨rs,e2⟩,h2,hf⟩:=Pr hf
  obtain⟨ds,h3,hf⟩:=Pr hf
  refine⟨F,e,_,e1,R,h1,fun F1 H1 v X1 R1 A1=>?_⟩
  obtain⟨g1,zs,g2⟩:=A1
  obtain⟨l,vs,c1,c2,c3,c4⟩:=R1.own i zs g2
  rw [g1] at c1;cases c1
  refine⟨.inl ⟨rfl,vs,.inl (.inl c3)⟩,F1,e1,rs,e2,R1,h2,fun F2 H2 us X2 R2 A2=>?_⟩
  match h4:e2[i]?,hf with
  | some (some (.l xs)),hf=>
  dsimp only at hf
  obtain⟨⟨zd,ys⟩,h5,hf⟩:=Pt hf
  cases hf
  obtain⟨F3,R3,s3,d3,f3⟩:=eF.frozen R2 A2 h3
  obtain⟨l',vs',k1,k2,k3,k4⟩:=R3.own i xs h4
  rw [g1] at k1;cases k1
  refine hm F3 H2 l xs ys ds zd vs' us Q k2 R3.sm k3 k4 d3 h5 fun w ws hw hws=>?_
  obtain⟨R4,X4⟩:=R3.putL h4 g1 hws
  exact q _ _ _ ((X1.trans (X2.frz s3 f3)).trans X4) R4 hw
theorem E2{r:V→List V→Hp→VK→Prop}{g:List PD→List PD→Option (PD × List PD)}(slot:Slot "list" name id)(hty:typeOf (.builtin id)=pure (.type "method_descriptor"))(hm:Ib X id r)(hf:xR X.K r g)(ho:PE X o (fE X.K fo))(ha:PA X (a::es) (fA X.K fs))
    (hbase:Rw o name X.env (PV o X.env)=PV o X.env)
    (hfew:((Qf cpos (PU (a::es) X.env)).all (fun x=> !x.1)&&(Rz cpos (RB [] X.env)).all (fun x=>x.1.isSome)
      &&decide ((a::es).length+([]:List QQ).length+(if ([]:List QQ).isEmpty then 0 else 1) < 30))=true)
    (hline:(apos.endLine==cpos.line)=true)(hs:PU (a::es) X.env=(false,PV a X.env)::PU es X.env)(hplain:(Qf cpos (PU es X.env)).any (·.1)=false):
    PE X (.Call (.Attribute o name apos) (a::es) [] cpos) (fE X.K (eO g fo fs)):=(A8 PySem.F.plainAttrs_list slot hty hm ho ha hbase hfew hline hs hplain).mono fun _ _ _ h=>Ca hf h
def cu:List PD→List PD→Option (PD × List PD):=fun xs ds=>match ds with
  | [d]=>if xs.length < 1000000 then some (.none,xs++[d]) else none
  | _=>none
theorem zR:xR K yA cu:=by
  intro F H l xs ys ds z vs us Q hF sm hl d1 d2 hg q
  unfold cu at hg
  match ds,hg,d2 with
  | [d],hg,d2=>
    simp only [aT] at d2
    obtain⟨w,r,rfl,hw,rfl⟩:=d2
    dsimp only at hg
    split at hg
    case isFalse=>cases hg
    case isTrue hlt=>
    cases hg
    have:=d1.len
    have sl:PY=16777216:=QC
    exact⟨l,vs,w,rfl,rfl,hl,by lia,q _ _ (gW.mpr rfl) (d1.append (aT.one hw))⟩
def uc:List PD→List PD→Option (PD × List PD):=fun xs ds=>match ds with
  | []=>(xs[xs.length - 1]?).map fun d=>(d,xs.dropLast)
  | _=>none
def fK:List PD→List PD→Option (PD × List PD):=fun xs ds=>match ds with
  | [.int i]=>if 0≤i∧i < 1000000000 then(xs[i.toNat]?).map fun d=>(d,xs.eraseIdx i.toNat) else none
  | _=>none
theorem DO:xR K BA fK:=by
  intro F H l xs ys ds z vs us Q hF sm hl d1 d2 hg q
  unfold fK at hg
  match ds,hg,d2 with
  | [.int i],hg,d2=>
    simp only [aT,DA] at d2
    obtain⟨w,r,rfl,rfl,rfl⟩:=d2
    dsimp only at hg
    split at hg
    case isFalse=>cases hg
    case isTrue hlt=>
    obtain⟨d,h1,h2⟩:=Pt hg
    cases h2
    obtain⟨v,g1,g2⟩:=d1.get h1
    have hlt2:i.toNat < vs.length:=(Pu g1).1
    exact⟨l,vs,i,i.toNat,v,rfl,rfl,hl,by lia,by lia,seqIndex_of hlt.1 (by lia),g1,q _ _ g2 (d1.erase _)⟩
end
inductive Fl where
  | nx (e:En)
  | bk (e:En)
  | ct (e:En)
  | rt (r:Rv) (e:En)
abbrev FS:=En→Option Fl
structure eB (W:List Nat) (σ:L2.St) (F H:Hp) (e:En) (σ':L2.St) (F' H':Hp) (e':En):Prop where
  sf:ax F F'
  dom:∀a,H' a=none→H a=none
  fr:∀a vs,F a=none→H a=some (.lst vs)→¬cj σ e H a→F' a=none
  lst:∀a vs,H a=some (.lst vs)→∃vs',H' a=some (.lst vs')
  tmp:∀a o,H a=some o→¬cj σ e H a→H' a=some o
  own:∀a,cj σ' e' H' a→cj σ e H a∨H a=none
  wr:∀j,j∉W→σ'[j]?=σ[j]?
  fd:∀a (m:DI),F a=none→H a=some m.1→¬cj σ e H a→F' a=none
section
variable{K:PF}{W W1 W2:List Nat}{σ σ1 σ2 σ':L2.St}{H0 F H F1 H1 F2 H2 F' H':Hp}{e e1 e2 e':En}
theorem eB.refl:eB W σ F H e σ F H e:=⟨ax.refl _,fun _ h=>h,fun _ _ h _ _=>h,fun _ vs h=>⟨vs,h⟩,fun _ _ h _=>h,fun _ h=>.inl h,fun _ _=>rfl,fun _ _ h _ _=>h⟩
theorem dY.s(x:dY σ F H e F' H' e'):eB W σ F H e σ F' H' e':=⟨x.sf,x.dom,x.fr,x.lst,x.tmp,x.ow,fun _ _=>rfl,x.fd⟩
theorem eB.trans(x:eB W σ F H e σ1 F1 H1 e1)(y:eB W σ1 F1 H1 e1 σ2 F2 H2 e2):eB W σ F H e σ2 F2 H2 e2:=
  ⟨x.sf.trans y.sf,fun a h=>x.dom a (y.dom a h),fun a vs h n no=>let ⟨vs',q⟩:=x.lst a vs n;y.fr a vs' (x.fr a vs h n no) q (fun z=>(x.own a z).elim no fun z=>by rw [n] at z;cases z),fun a vs h=>let ⟨vs',q⟩:=x.lst a vs h;y.lst a vs' q,
    fun a o h n=>y.tmp a o (x.tmp a o h n) (fun z=>(x.own a z).elim n fun z=>by rw [h] at z;cases z),
    fun a h=>(y.own a h).elim (x.own a) (fun z=>.inr (x.dom a z)),
    fun j h=>(y.wr j h).trans (x.wr j h),
    fun a m h n no=>y.fd a m (x.fd a m h n no) (x.tmp a _ n no) (fun z=>(x.own a z).elim no fun z=>by rw [n] at z;cases z)⟩
theorem eB.mono(x:eB W1 σ F H e σ' F' H' e')(h:∀j,j∈W1→j∈W):eB W σ F H e σ' F' H' e':=⟨x.sf,x.dom,x.fr,x.lst,x.tmp,x.own,fun j n=>x.wr j fun z=>n (h j z),x.fd⟩
end
def pN(K:PF)(W:List Nat)(σ:L2.St)(F H:Hp)(e:En)(D:qX):Fl→Prop
  | .nx e'=>∀F' H' σ',eB W σ F H e σ' F' H' e'→bj K F' H' σ' e'→D.nx σ' H'
  | .bk e'=>∀F' H' σ',eB W σ F H e σ' F' H' e'→bj K F' H' σ' e'→D.bk σ' H'
  | .ct e'=>∀F' H' σ',eB W σ F H e σ' F' H' e'→bj K F' H' σ' e'→D.ct σ' H'
  | .rt r e'=>∀F' H' σ' v,eB W σ F H e σ' F' H' e'→bj K F' H' σ' e'→cK K σ' H F' H' e' r v→D.rt v H'
def fS(K:PF)(f:FS)(W:List Nat):TS:=fun D σ H=>∃F e fl,bj K F H σ e∧f e=some fl∧pN K W σ F H e D fl
theorem PS.mono{X:Cx}{st:PN}{t t':TS}(h:PS X st t)(m:∀D σ H,t' D σ H→t D σ H):PS X st t':=fun pins s σ H D I q=>h pins s σ H D I (m D σ H q)
theorem kQ.mono{X:Cx}{st:List PN}{t t':TS}(h:kQ X st t)(m:∀D σ H,t' D σ H→t D σ H):kQ X st t':=fun pins s σ H D I q=>h pins s σ H D I (m D σ H q)
theorem pN.later{K:PF}{W W1 W2:List Nat}{σ σ1:L2.St}{F H F1 H1:Hp}{e e1:En}{D:qX}{fl:Fl}(h:pN K W σ F H e D fl)(x:eB W1 σ F H e σ1 F1 H1 e1)(h1:∀j,j∈W1→j∈W)(h2:∀j,j∈W2→j∈W):pN K W2 σ1 F1 H1 e1 D fl:=by
  cases fl with
  | nx e'=>exact fun F' H' σ' y R=>h F' H' σ' ((x.mono h1).trans (y.mono h2)) R
  | bk e'=>exact fun F' H' σ' y R=>h F' H' σ' ((x.mono h1).trans (y.mono h2)) R
  | ct e'=>exact fun F' H' σ' y R=>h F' H' σ' ((x.mono h1).trans (y.mono h2)) R
  | rt r e'=>exact fun F' H' σ' v y R A=>h F' H' σ' v ((x.mono h1).trans (y.mono h2)) R (A.weak x.dom)
section
variable{X:Cx}{K:PF}{W W1 W2:List Nat}{st:PN}{cH:List PN}{f g:FS}{a b:PH}{fa:FE}{ft:FT}{pos:Pos}
def dh:FS:=fun e=>some (.nx e)
def aJ(f g:FS):FS:=fun e=>(f e).bind fun fl=>match fl with
  | .nx e1=>g e1
  | fl=>some fl
theorem br:kQ X [] (fS K dh []):=yp.mono fun D σ H h=>by
  obtain⟨F,e,fl,R,hf,q⟩:=h
  cases hf
  exact q F H σ eB.refl R
theorem ah(h1:PS X st (fS K f W1))(h2:kQ X cH (fS K g W2)):kQ X (st::cH) (fS K (aJ f g) (W1++W2)):=(qj h1 h2).mono fun D σ H h=>by
  obtain⟨F,e,fl,R,hf,q⟩:=h
  unfold aJ at hf
  obtain⟨fl1,h1,hf⟩:=Pr hf
  have s1:∀j,j∈W1→j∈W1++W2:=fun j h=>QU.mpr (.inl h)
  have s2:∀j,j∈W2→j∈W1++W2:=fun j h=>QU.mpr (.inr h)
  refine⟨F,e,fl1,R,h1,?_⟩
  cases fl1 with
  | nx e1=>exact fun F' H' σ' x R'=>⟨F',e1,fl,R',hf,q.later x s1 s2⟩
  | bk e1=>cases hf;exact fun F' H' σ' x R'=>q F' H' σ' (x.mono s1) R'
  | ct e1=>cases hf;exact fun F' H' σ' x R'=>q F' H' σ' (x.mono s1) R'
  | rt r e1=>cases hf;exact fun F' H' σ' v x R' A=>q F' H' σ' v (x.mono s1) R' A
theorem av(h1:PS X st (fS K f W)):kQ X [st] (fS K f W):=uk h1
def iC(fa:FE):FS:=fun e=>(fa e).map fun p=>.nx p.2
theorem mX(he:PE X a (fE K fa))(hs:RW a none pos.line X.env=pure false):PS X (.Expr a pos) (fS K (iC fa) []):=(DQ he hs).mono fun D σ H h=>by
  obtain⟨F,e,fl,R,hf,q⟩:=h
  obtain⟨⟨x,e1⟩,h1,hf⟩:=Pt hf
  cases hf
  exact⟨F,e,x,e1,R,h1,fun F1 H1 v X1 R1 A1=>q F1 H1 σ X1.s R1⟩
def bf(fa:FE):FS:=fun e=>(fa e).map fun p=>.rt p.1 p.2
theorem aB(he:PE X a (fE K fa)):PS X (.Return (some a) pos) (fS K (bf fa) []):=(xw he).mono fun D σ H h=>by
  obtain⟨F,e,fl,R,hf,q⟩:=h
  obtain⟨⟨x,e1⟩,h1,hf⟩:=Pt hf
  cases hf
  exact⟨F,e,x,e1,R,h1,fun F1 H1 v X1 R1 A1=>q F1 H1 σ v X1.s R1 A1⟩
def je(ft:FT)(f g:FS):FS:=fun e=>(ft e).bind fun p=>if p.1=true then f p.2 else g p.2
theorem cW{c:PH}{bs cs:List PN}(hc:PT X c (fT K ft))(ha:kQ X bs (fS K f W1))(hb:kQ X cs (fS K g W2)):PS X (.If c bs cs pos) (fS K (je ft f g) (W1++W2)):=(EY hc ha hb).mono fun D σ H h=>by
  obtain⟨F,e,fl,R,hf,q⟩:=h
  unfold je at hf
  obtain⟨⟨x,e1⟩,h1,hf⟩:=Pr hf
  refine⟨F,e,x,e1,R,h1,fun F1 H1 X1 R1=>?_⟩
  cases x with
  | true=>exact⟨F1,e1,fl,R1,hf,q.later (W1:=[]) X1.s (fun j h=>by cases h) fun j h=>QU.mpr (.inl h)⟩
  | false=>exact⟨F1,e1,fl,R1,hf,q.later (W1:=[]) X1.s (fun j h=>by cases h) fun j h=>QU.mpr (.inr h)⟩
def qk(i:Nat)(r:Rv)(e:En):Option En:=match r with
  | .d x=>some (e.set i (some (.d x)))
  | .l xs=>some (e.set i (some (.l xs)))
  | .s _=>none
theorem Hh{σ:L2.St}{H F H1 F1:Hp}{e e1 e2:En}{i:Nat}{r:Rv}{v:V}(R:bj K F H σ e)(X1:dY σ F H e F1 H1 e1)(R1:bj K F1 H1 σ e1)(A1:cK K σ H F1 H1 e1 r v)(h:qk i r e1=some e2):
    eB [i] σ F H e (σ.set i (some v)) F1 H1 e2∧bj K F1 H1 (σ.set i (some v)) e2:=by
  have wr:∀j,j∉[i]→(σ.set i (some v))[j]?=σ[j]?:=fun j n=>Ql (fun z=>n (by simp [z]))
  cases r with
  | d x=>
    cases h
    obtain⟨R2,o2⟩:=R1.setD i A1
    exact⟨⟨X1.sf,X1.dom,X1.fr,X1.lst,X1.tmp,fun a h=>X1.ow a (o2 a h),wr,X1.fd⟩,R2⟩
  | l xs=>
    cases h
    obtain⟨l,vs,rfl,h1,h2,h3,h4,h5⟩:=A1
    obtain⟨R2,o2⟩:=R1.setL i h2 h3 h4 h5
    refine⟨⟨X1.sf,X1.dom,X1.fr,X1.lst,X1.tmp,fun a h=>?_,wr,X1.fd⟩,R2⟩
    rcases o2 a h with z | z
    · exact X1.ow a z
    · exact .inr (by rw [z];exact h1)
  | s j=>cases h
def aS(i:Nat)(fa:FE):FS:=fun e=>(fa e).bind fun p=>(qk i p.1 p.2).map .nx
theorem aH{i:Nat}{x:Str}{pos':Pos}(hN:X.N.Nodup)(hi:X.N[i]?=some x)(hx:Cv X.env.scope x)(he:PE X a (fE K fa))(hs:RW a (some (.Name x pos')) pos.line X.env=pure false)(hf:X.fn x=true∨X.env.scope.names.lookup x=some .local):
    PS X (.Assign [.Name x pos'] a pos) (fS K (aS i fa) [i]):=(uj hN hi hx he hs hf).mono fun D σ H h=>by
  obtain⟨F,e,fl,R,hf,q⟩:=h
  unfold aS at hf
  obtain⟨⟨r,e1⟩,h1,hf⟩:=Pr hf
  obtain⟨e2,h2,hf⟩:=Pt hf
  cases hf
  refine⟨F,e,r,e1,R,h1,fun F1 H1 v X1 R1 A1=>?_⟩
  obtain⟨x,R2⟩:=Hh R X1 R1 A1 h2
  exact q F1 H1 _ x R2
abbrev FG:=PD→En→Option En
def fG(K:PF)(g:FG)(W:List Nat):TG:=fun v σ H Q=>∃F e x e',bj K F H σ e∧DA K F x v∧g x e=some e'∧∀σ',eB W σ F H e σ' F H e'→bj K F H σ' e'→Q σ' H
abbrev Ce:=List PD→En→Option En
def II(K:PF)(g:Ce)(W:List Nat):zN:=fun vs σ H Q=>∃F e xs e',bj K F H σ e∧aT K F xs vs∧g xs e=some e'∧∀σ',eB W σ F H e σ' F H e'→bj K F H σ' e'→Q σ' H
theorem PG.mono{tg:PH}{t t':TG}(h:PG X tg t)(m:∀v σ H Q,t' v σ H Q→t v σ H Q):PG X tg t':=fun pins s σ H v u Q I r q=>h pins s σ H v u Q I r (m v σ H Q q)
theorem xS.mono{tg:List PH}{t t':zN}(h:xS X tg t)(m:∀v σ H Q,t' v σ H Q→t v σ H Q):xS X tg t':=fun pins s σ H v u Q I r q=>h pins s σ H v u Q I r (m v σ H Q q)
def aq(i:Nat):FG:=fun x e=>some (e.set i (some (.d x)))
def bT:Ce:=fun xs e=>match xs with
  | []=>some e
  | _=>none
def aF(g:FG)(gs:Ce):Ce:=fun xs e=>match xs with
  | x::r=>(g x e).bind fun e1=>gs r e1
  | _=>none
def cn(gs:Ce):FG:=fun x e=>match x with
  | .tuple xs=>gs xs e
  | _=>none
theorem aI{i:Nat}{x:Str}(hN:X.N.Nodup)(hi:X.N[i]?=some x)(hx:Cv X.env.scope x)(hf:X.fn x=true∨X.env.scope.names.lookup x=some .local):PG X (.Name x pos) (fG K (aq i) [i]):=(DF hN hi hx hf).mono fun v σ H Q h=>by
  obtain⟨F,e,x,e',R,hx,hg,q⟩:=h
  cases hg
  obtain⟨R2,o2⟩:=R.setD i hx
  exact q _ ⟨ax.refl _,fun _ h=>h,fun _ _ h _ _=>h,fun _ vs h=>⟨vs,h⟩,fun _ _ h _=>h,fun a h=>.inl (o2 a h),fun j n=>Ql (fun z=>n (by simp [z])),fun _ _ h _ _=>h⟩ R2
theorem er:xS X [] (II K bT []):=DH.mono fun v σ H Q h=>by
  obtain⟨F,e,x,e',R,hx,hg,q⟩:=h
  unfold bT at hg
  split at hg
  · cases hg
    simp only [aT] at hx
    exact⟨hx,q σ eB.refl R⟩
  · cases hg
theorem a_{es:List PH}{g1:FG}{gs:Ce}(h1:PG X a (fG K g1 W1))(h2:xS X es (II K gs W2))
    (hs:(QA (a::es) X.env).map (·.2)=assign a X.env::(QA es X.env).map (·.2)):xS X (a::es) (II K (aF g1 gs) (W1++W2)):=(Bb h1 h2 hs).mono fun v σ H Q h=>by
  obtain⟨F,e,xs,e',R,hx,hg,q⟩:=h
  unfold aF at hg
  match xs,hg,hx with
  | x::r,hg,hx=>
    simp only [aT] at hx
    obtain⟨w,ws,e1,hw,hr⟩:=hx
    dsimp only at hg
    obtain⟨e1',h3,h4⟩:=Pr hg
    refine⟨w,ws,e1,F,e,x,e1',R,hw,h3,fun σ1 x1 R1=>⟨F,e1',r,e',R1,hr,h4,fun σ2 x2 R2=>?_⟩⟩
    exact q σ2 ((x1.mono fun j h=>QU.mpr (.inl h)).trans (x2.mono fun j h=>QU.mpr (.inr h))) R2
theorem iW{es:List PH}{k n:Nat}{gs:Ce}(hK:X.K=K)(hc:X.calm=true)(h:xS X es (II K gs W))(hl:∀xs e e',gs xs e=some e'→xs.length=n)(hn:(QA es X.env).length=n)(hst:(QA es X.env).findIdx? (·.1)=none):PG X (.Tuple es k pos) (fG K (cn gs) W):=(DG hK hc h hn hst).mono fun v σ H Q h=>by
  obtain⟨F,e,x,e',R,hx,hg,q⟩:=h
  unfold cn at hg
  match x,hg,hx with
  | .tuple xs,hg,hx=>
    obtain⟨p,vs,e1,e2,e3⟩:=eC.mp hx
    exact⟨p,vs,e1,R.sm.tup e2,by rw [←e3.len];exact hl xs e e' hg,F,e,xs,e',R,e3,hg,q⟩
theorem gH(xs:List PD)(e e':En)(h:bT xs e=some e'):xs.length=0:=by
  unfold bT at h
  split at h
  · rfl
  · cases h
theorem bA{g:FG}{gs:Ce}{n:Nat}(hl:∀xs e e',gs xs e=some e'→xs.length=n)(xs:List PD)(e e':En)(h:aF g gs xs e=some e'):xs.length=n+1:=by
  unfold aF at h
  match xs,h with
  | x::r,h=>
    obtain⟨e1,h3,h4⟩:=Pr h
    simp [hl r e1 e' h4]
def lp(fa:FE)(g:FG):FS:=fun e=>(fa e).bind fun p=>match p.1 with
  | .d x=>(g x p.2).map .nx
  | _=>none
theorem qm{tg:PH}{g:FG}(he:PE X a (fE K fa))(hg:PG X tg (fG K g W))(hs:SK [tg] a pos.line X.env=pure false)(hw:SL [tg] a X.env=pure none)
    (h1:(QA [tg] X.env).map (·.2)=[assign tg X.env]):PS X (.Assign [tg] a pos) (fS K (lp fa g) W):=(xu he hg hs hw h1).mono fun D σ H h=>by
  obtain⟨F,e,fl,R,hf,q⟩:=h
  unfold lp at hf
  obtain⟨⟨r,e1⟩,h1,hf⟩:=Pr hf
  match r,h1,hf with
  | .d x,h1,hf=>
    obtain⟨e2,h2,hf⟩:=Pt hf
    cases hf
    exact⟨F,e,_,e1,R,h1,fun F1 H1 v X1 R1 A1=>⟨F1,e1,x,e2,R1,A1,h2,fun σ' x2 R2=>q F1 H1 σ' (X1.s.trans x2) R2⟩⟩
def pj(i j:Nat)(fs:FA):FS:=fun e=>(fs e).bind fun p=>match p.1 with
  | [.d x,.d y]=>some (.nx ((p.2.set i (some (.d x))).set j (some (.d y))))
  | _=>none
theorem Hs{i j:Nat}{x y:Str}{fs:FA}{px py pt:Pos}{kt k2 pt2}(hc:X.calm=true)(hN:X.N.Nodup)(hi:X.N[i]?=some x)(hj:X.N[j]?=some y)(hij:i≠j)
    (hx:X.env.scope.names.lookup x=some .local)(hy:X.env.scope.names.lookup y=some .local)(ha:PA X [a,b] (fA K fs))
    (hw:SL [.Tuple [.Name x px,.Name y py] kt pt] (.Tuple [a,b] k2 pt2) X.env=pure (some [x,y]))
    (hs:SK [.Tuple [.Name x px,.Name y py] kt pt] (.Tuple [a,b] k2 pt2) pos.line X.env=pure false):
    PS X (.Assign [.Tuple [.Name x px,.Name y py] kt pt] (.Tuple [a,b] k2 pt2) pos) (fS K (pj i j fs) [i,j]):=(He hc hN hi hj hij hx hy ha hw hs).mono fun D σ H h=>by
  obtain⟨F,e,fl,R,hf,q⟩:=h
  unfold pj at hf
  obtain⟨⟨rs,e1⟩,h1,hf⟩:=Pr hf
  refine⟨F,e,rs,e1,R,h1,fun F1 H1 vs X1 R1 A1=>?_⟩
  match rs,hf,A1 with
  | [.d x,.d y],hf,A1=>
    cases hf
    obtain⟨v,u,rfl,a1,a2⟩:=yD A1
    obtain⟨R2,o2⟩:=R1.setD i a1
    obtain⟨R3,o3⟩:=R2.setD j a2
    refine⟨v,u,rfl,q F1 H1 _ ⟨X1.sf,X1.dom,X1.fr,X1.lst,X1.tmp,fun a h=>X1.ow a (o2 a (o3 a h)),fun m n=>?_,X1.fd⟩ R3⟩
    rw [Ql (fun z=>n (by simp [z])),Ql (fun z=>n (by simp [z]))]
def iw:Rv→Option PD
  | .d x=>some x
  | .l xs=>some (.list xs)
  | .s _=>none
theorem rQ{r:Rv}{d:PD}(h:iw r=some d):gP [r]=some [d]:=by
  cases r with
  | d x=>cases h;rfl
  | l xs=>cases h;rfl
  | s i=>cases h
def lW(e:En):Rv→Option (Nat × List PD)
  | .s n=>match e[n]? with
    | some (some (.l xs))=>some (n,xs)
    | _=>none
  | _=>none
theorem zC{e:En}{r:Rv}{n:Nat}{xs:List PD}(h:lW e r=some (n,xs)):r=.s n∧e[n]?=some (some (.l xs)):=by
  unfold lW at h
  split at h
  · split at h
    · rename_i heq
      cases h;exact⟨rfl,heq⟩
    · cases h
  · cases h
def qz(fa fo fi:FE):FS:=fun e=>(fa e).bind fun p=>(iw p.1).bind fun d=>(fo p.2).bind fun o=>(fi o.2).bind fun i=>(bW i.1).bind fun k=>(lW i.2 o.1).bind fun s=>(zi s.2.length k).map fun j=>.nx (i.2.set s.1 (some (.l (s.2.set j d))))
theorem qo{o i:PH}{fo fi:FE}{ps:Pos}(he:PE X a (fE K fa))(ho:PE X o (fE K fo))(hi:PE X i (fE K fi))
    (ha:∀v,assign (.Subscript o i ps) X.env v=(do
      let ov ←Rm [v] (PV o X.env)
      let iv ←Rm [v,ov] (PV i X.env)
      RH ps
      Rm [v,ov,iv] (setItem ov iv v)
      release [v,ov,iv] []))
    (hs:SK [.Subscript o i ps] a pos.line X.env=pure false)(hw:SL [.Subscript o i ps] a X.env=pure none)
    (h1:(QA [.Subscript o i ps] X.env).map (·.2)=[assign (.Subscript o i ps) X.env]):PS X (.Assign [.Subscript o i ps] a pos) (fS K (qz fa fo fi) []):=(xu he (Ha ho hi BX ha) hs hw h1).mono fun D σ H h=>by
  obtain⟨F,e,fl,R,hf,q⟩:=h
  unfold qz at hf
  obtain⟨⟨r,e1⟩,g1,hf⟩:=Pr hf
  obtain⟨d,g2,hf⟩:=Pr hf
  obtain⟨⟨ro,e2⟩,g3,hf⟩:=Pr hf
  obtain⟨⟨ri,e3⟩,g4,hf⟩:=Pr hf
  obtain⟨k,g5,hf⟩:=Pr hf
  obtain⟨⟨n,xs⟩,g6,hf⟩:=Pr hf
  obtain⟨j,g7,hf⟩:=Pt hf
  cases hf
  obtain⟨z6,g6'⟩:=zC g6
  dsimp only at z6 g6'
  subst z6
  refine⟨F,e,r,e1,R,g1,fun F1 H1 v X1 R1 A1=>?_⟩
  refine⟨F1,e1,_,e2,R1,g3,fun F2 H2 u X2 R2 A2=>⟨F2,e2,ri,e3,R2,g4,fun F3 H3 w X3 R3 A3=>?_⟩⟩
  have X12:=X1.trans X2
  have X13:=X12.trans X3
  have A1':=(A1.ext X2).ext X3
  obtain⟨F4,R4,s4,d4,f4⟩:=eF.frozen R3 (rs:=[r]) (vs:=[v]) ⟨v,[],rfl,A1',rfl⟩ (rQ g2)
  obtain⟨h1,_⟩:=A2
  obtain⟨l,vs,k1,k2,k3,k4⟩:=R4.own n xs g6'
  rw [h1] at k1;cases k1
  simp only [aT] at d4
  obtain⟨v',r',e',hv,_⟩:=d4
  cases e'
  refine⟨l,vs,k,j,rfl,cF A3 g5,k3,by rw [←k4.len];exact g7,?_⟩
  obtain⟨R5,X5⟩:=R4.putL g6' h1 (k4.set hv j)
  exact q _ _ σ ((X13.frz s4 f4).trans X5).s R5
def jR(ft:FT)(f:FS):Nat→FS
  | 0,_=>none
  | n+1,e=>(ft e).bind fun p=>if p.1=true then(f p.2).bind fun fl=>match fl with
      | .nx e1=>jR ft f n e1
      | .ct e1=>jR ft f n e1
      | .bk e1=>some (.nx e1)
      | .rt r e1=>some (.rt r e1)
    else some (.nx p.2)
def qA(n:Nat)(ft:FT)(f:FS):FS:=jR ft f n
theorem vF{n:Nat}{c:PH}{body:List PN}(hp:PassesOwn (PQ X.prog X.w) X.A X.env X.xe)(hc:PT X c (fT K ft))(hb:kQ X body (fS K f W)):PS X (.While c body [] pos) (fS K (qA n ft f) W):=(Bh hp hc hb).mono fun D σ H h=>by
  refine⟨fun m σ H=>∃F e fl,bj K F H σ e∧jR ft f m e=some fl∧pN K W σ F H e D fl,⟨n,h⟩,?_⟩
  rintro m σ H ⟨F,e,fl,R,hf,q⟩
  cases m with
  | zero=>cases hf
  | succ m=>
    unfold jR at hf
    obtain⟨⟨x,e1⟩,h1,hf⟩:=Pr hf
    refine⟨F,e,x,e1,R,h1,fun F1 H1 X1 R1=>?_⟩
    have sub:∀j,j∈([]:List Nat)→j∈W:=fun j h=>by cases h
    cases x with
    | false=>
      rw [if_neg (by simp)] at hf
      cases hf
      exact IX (q F1 H1 σ X1.s R1)
    | true=>
      rw [if_pos rfl] at hf
      refine IY ?_
      obtain⟨fl1,h2,hf⟩:=Pr hf
      have q1:pN K W σ F1 H1 e1 D fl:=q.later (W1:=[]) X1.s sub fun j h=>h
      refine⟨fun σ' H'=>∃F' e',bj K F' H' σ' e'∧jR ft f m e'=some fl∧pN K W σ' F' H' e' D fl,fun σ' H' ⟨F',e',r1,r2,r3⟩=>⟨m,Nat.lt_succ_self m,F',e',fl,r1,r2,r3⟩,F1,e1,fl1,R1,h2,?_⟩
      cases fl1 with
      | nx e2=>exact fun F2 H2 σ2 x R2=>⟨F2,e2,R2,hf,q1.later x (fun j h=>h) fun j h=>h⟩
      | ct e2=>exact fun F2 H2 σ2 x R2=>⟨F2,e2,R2,hf,q1.later x (fun j h=>h) fun j h=>h⟩
      | bk e2=>cases hf;exact fun F2 H2 σ2 x R2=>q1 F2 H2 σ2 x R2
      | rt r e2=>cases hf;exact fun F2 H2 σ2 v x R2 A=>q1 F2 H2 σ2 v x R2 A
end
theorem PI.mono{X:Cx}{tg iter:PH}{t t':TI}(h:PI X tg iter t)(m:∀σ H R,t' σ H R→t σ H R):PI X tg iter t':=fun pins s σ H R I q=>h pins s σ H R I (m σ H R q)
theorem PI.or{X:Cx}{tg iter:PH}{t t':TI}(h:PI X tg iter t)(h':PI X tg iter t'):PI X tg iter (fun σ H R=>t σ H R∨t' σ H R):=fun pins s σ H R I q=>by
  rcases q with q | q
  · exact h pins s σ H R I q
  · exact h' pins s σ H R I q
abbrev jZ:=List (Nat × List PD)
def zP(K:PF)(σ:L2.St)(F H:Hp)(own:jZ):Prop:=∀p∈own,∃l vs,σ[p.1]?=some (some (.ref l))∧H l=some (.lst vs)∧aT K F p.2 vs
def Cu(K:PF)(σ:L2.St)(J:It)(items:List PD)(own:jZ)(F0:Hp):Prop:=∀F H,ax F0 F→ax F H→zP K σ F H own→
  (∀i,i < items.length→J.go i H)∧(∀i,items.length≤i→J.stop i H)∧∀i d x H',items[i]?=some d→J.yld i H x H'→∃F',ax H H'∧ax F F'∧ax F' H'∧(∀a,F a=none→H a≠none→F' a=none)∧DA K F' d x
abbrev FI:=En→Option (List PD × jZ × En)
def keeps(own:jZ)(e:En):Prop:=∀p∈own,e[p.1]?=some (some (.l p.2))
def fI(K:PF)(f:FI):TI:=fun σ H R=>∃F e items own e',bj K F H σ e∧f e=some (items,own,e')∧∀J F' H',dY σ F H e F' H' e'→bj K F' H' σ e'→keeps own e'→Cu K σ J items own F'→R J H'
section
variable{K:PF}{σ:L2.St}{H0 F H F' H':Hp}{e e':En}
theorem bj.held(R:bj K F H σ e){own:jZ}(h:keeps own e):zP K σ F H own:=fun p hp=>by
  obtain⟨l,vs,h1,h2,h3,h4⟩:=R.own p.1 p.2 (h p hp)
  exact⟨l,vs,h1,h3,h4⟩
theorem bj.step(R:bj K F H σ e)(s:ax H H')(sF:ax F F')(sm:ax F' H')(fz:∀a,F a=none→H a≠none→F' a=none):bj K F' H' σ e∧dY σ F H e F' H' e:=by
  obtain⟨R',o'⟩:=R.keep sF sm (fun a ⟨i,h⟩=>by
    obtain⟨h1,vs,h2⟩:=R.fpAt h
    exact fz a h1 (by rw [h2];simp)) fun a o _ h=>s a o h
  exact⟨R',⟨sF,fun a h=>s.free h,fun a vs h1 h2 _=>fz a h1 (by rw [h2];simp),fun a vs h=>⟨vs,s _ _ h⟩,fun a o h _=>s a o h,fun _=>Iff.rfl,fun a h=>.inl ((o' a).mp h),fun a m h1 h2 _=>fz a h1 (by rw [h2];simp)⟩⟩
inductive EB (K:PF) (σ:L2.St) (F:Hp) (p:xM):Bool→List PD→jZ→Prop
  | tup {xs vs}:fB K F p vs→aT K F xs vs→EB K σ F p false xs []
  | lst {xs vs}:iJ K F p vs→aT K F xs vs→EB K σ F p true xs []
  | own {i xs}:σ[i]?=some (some (.ref p))→EB K σ F p true xs [(i,xs)]
theorem EB.at{p:xM}{b:Bool}{xs:List PD}{own:jZ}{F0:Hp}(h:EB K σ F0 p b xs own)(s0:ax F0 F)(s1:ax F H){own':jZ}(hh:zP K σ F H own')(hs:∀q∈own,q∈own'):∃vs,aT K F xs vs∧(if b=true then iJ K H p vs else fB K H p vs):=by
  cases h with
  | tup h1 h2=>exact⟨_,h2.mono s0,(s0.trans s1).tup h1⟩
  | lst h1 h2=>exact⟨_,h2.mono s0,(s0.trans s1).seq h1⟩
  | @own i xs h1=>
    obtain⟨l,vs,g1,g2,g3⟩:=hh (i,xs) (hs (i,xs) (by simp))
    dsimp only at g1 g3
    rw [h1] at g1;cases g1
    exact⟨vs,g3,.inl (.inl g2)⟩
def HH(e:En):Rv→Option (Bool × List PD × jZ)
  | .d (.tuple xs)=>some (false,xs,[])
  | .d (.list xs)=>some (true,xs,[])
  | .l xs=>some (true,xs,[])
  | .s i=>match e[i]? with
    | some (some (.l xs))=>some (true,xs,[(i,xs)])
    | _=>none
  | _=>none
theorem yK{r:Rv}{v:V}{b:Bool}{xs:List PD}{own:jZ}(R:bj K F H σ e)(A:cK K σ H0 F H e r v)(h:HH e r=some (b,xs,own)):
    ∃F' p,bj K F' H σ e∧ax F F'∧(∀a,F a=none→H0 a≠none→F' a=none)∧v=.ref p∧EB K σ F' p b xs own∧keeps own e:=by
  cases r with
  | d x=>
    cases x with
    | tuple ds=>
      cases h
      obtain⟨a,ys,e1,e2,e3⟩:=eC.mp A
      exact⟨F,a,R,ax.refl _,fun _ h _=>h,e1,.tup e2 e3,fun p hp=>by cases hp⟩
    | list ds=>
      cases h
      obtain⟨a,ys,e1,e2,e3⟩:=gF.mp A
      exact⟨F,a,R,ax.refl _,fun _ h _=>h,e1,.lst e2 e3,fun p hp=>by cases hp⟩
    | _=>cases h
  | l ys=>
    cases h
    obtain⟨F',R',s',d',f'⟩:=A.frozen R
    obtain⟨a,ys,e1,e2,e3⟩:=gF.mp d'
    exact⟨F',a,R',s',f',e1,.lst e2 e3,fun p hp=>by cases hp⟩
  | s i=>
    obtain⟨h1,ys,h2⟩:=A
    simp only [HH,h2] at h
    cases h
    obtain⟨l,vs,e1,e2,e3,e4⟩:=R.own i _ h2
    rw [h1] at e1;cases e1
    exact⟨F,l,R,ax.refl _,fun _ h _=>h,rfl,.own h1,fun p hp=>by simp only [RP] at hp;subst hp;exact h2⟩
theorem zh{p:xM}{xs:List PD}{own:jZ}{F0:Hp}(h:EB K σ F0 p true xs own):Cu K σ (Ky K p) xs own F0:=by
  intro F H s0 s1 hh
  obtain⟨vs,d,q⟩:=h.at s0 s1 hh fun _ h=>h
  have q:iJ K H p vs:=q
  refine⟨fun i hi=>⟨vs,vs[i]'(by rw [←d.len];exact hi),q,Rk _⟩,fun i hi=>⟨vs,q,by rw [←d.len];exact hi⟩,fun i x v H' hx hy=>?_⟩
  obtain⟨rfl,hy⟩:=hy
  obtain⟨w,g1,g2⟩:=d.get hx
  have e:=hy vs q
  rw [g1] at e;cases e
  exact⟨F,ax.refl _,ax.refl _,s1,fun _ h _=>h,g2⟩
theorem Aq{p:xM}{xs:List PD}{own:jZ}{F0:Hp}(h:EB K σ F0 p false xs own):Cu K σ (Kz K p) xs own F0:=by
  intro F H s0 s1 hh
  obtain⟨vs,d,q⟩:=h.at s0 s1 hh fun _ h=>h
  have q:fB K H p vs:=q
  refine⟨fun i hi=>⟨vs,vs[i]'(by rw [←d.len];exact hi),q,Rk _⟩,fun i hi=>⟨vs,q,by rw [←d.len];exact hi⟩,fun i x v H' hx hy=>?_⟩
  obtain⟨rfl,hy⟩:=hy
  obtain⟨w,g1,g2⟩:=d.get hx
  have e:=hy vs q
  rw [g1] at e;cases e
  exact⟨F,ax.refl _,ax.refl _,s1,fun _ h _=>h,g2⟩
def bg(lo:Int)(n:Nat):List PD:=(QM n).map fun(i:Nat)=>.int (lo+(i:Int))
theorem wR{lo:Int}{n:Nat}{F0:Hp}:Cu K σ (Kh lo n) (bg lo n) [] F0:=by
  intro F H s0 s1 hh
  unfold bg
  rw [Qh,List.length_range]
  refine⟨fun i hi=>hi,fun i hi=>hi,fun i x v H' hx hy=>?_⟩
  obtain⟨rfl,rfl⟩:=hy
  rw [Qu] at hx
  obtain⟨k,h1,rfl⟩:=Pt hx
  have h2:=(Pu h1).2
  simp at h2
  subst h2
  exact⟨F,ax.refl _,ax.refl _,s1,fun _ h _=>h,cA.mpr rfl⟩
end
inductive Kv (K:PF) (own:jZ) (σ0:L2.St) (F1:Hp) (P:En→Prop) (G:L2.St→Hp→Hp→En→Prop) (σ:L2.St) (H:Hp):Prop
  | mk {F:Hp} {e:En} (R:bj K F H σ e) (kp:keeps own e) (hσ:∀p∈own,σ[p.1]?=σ0[p.1]?) (sF:ax F1 F) (hf:P e) (q:G σ F H e):Kv K own σ0 F1 P G σ H
section
variable{X:Cx}{K:PF}{tg a b:PH}{es:List PH}{fa:FE}{fs:FA}{pos p tp:Pos}{k0:Nat}
def ki(fa:FE):FI:=fun e=>(fa e).bind fun p=>(HH p.2 p.1).map fun s=>(s.2.1,s.2.2,p.2)
theorem fP(hK:X.K=K)(h:PE X a (fE K fa)):PI X tg a (fI K (ki fa)):=((Bc (tg:=tg) hK h).or (DL (tg:=tg) hK h)).mono fun σ H R hh=>by
  obtain⟨F,e,items,own,e',R0,hf,q⟩:=hh
  unfold ki at hf
  obtain⟨⟨r,e1⟩,h1,hf⟩:=Pr hf
  obtain⟨⟨b,xs,ow⟩,h2,hf⟩:=Pt hf
  cases hf
  cases b with
  | true=>
    refine .inl ⟨F,e,r,e1,R0,h1,fun F1 H1 v X1 R1 A1=>?_⟩
    obtain⟨F2,p,R2,s2,f2,rfl,sc,kp⟩:=yK R1 A1 h2
    obtain⟨vs,_,c⟩:=sc.at (ax.refl _) R2.sm (R2.held kp) fun _ h=>h
    exact⟨p,rfl,⟨vs,c⟩,q _ F2 H1 (X1.frz s2 f2) R2 kp (zh sc)⟩
  | false=>
    refine .inr ⟨F,e,r,e1,R0,h1,fun F1 H1 v X1 R1 A1=>?_⟩
    obtain⟨F2,p,R2,s2,f2,rfl,sc,kp⟩:=yK R1 A1 h2
    obtain⟨vs,_,c⟩:=sc.at (ax.refl _) R2.sm (R2.held kp) fun _ h=>h
    exact⟨p,rfl,⟨vs,c⟩,q _ F2 H1 (X1.frz s2 f2) R2 kp (Aq sc)⟩
def BF(j:Int):Bool:=decide (-1000000≤j)&&decide (j≤1000000)
theorem BG{j:Int}(h:BF j=true): -1000000≤j∧j≤1000000:=by
  unfold BF at h
  rw [QD,decide_eq_true_iff,decide_eq_true_iff] at h
  exact h
def ek(fs:FA):FI:=fun e=>(fs e).bind fun p=>match p.1 with
  | [r]=>(bW r).bind fun j=>if BF j=true then some (bg 0 j.toNat,[],p.2) else none
  | _=>none
theorem eM(hg:Gl X "range")(hm:X.mg "range"=none)(ha:PA X [a] (fA K fs))(hs:PU [a] X.env=[(false,PV a X.env)]):PI X tg (.Call (.Name "range" p) [a] [] pos) (fI K (ek fs)):=(zx hg hm ha hs).mono fun σ H R hh=>by
  obtain⟨F,e,items,own,e',R0,hf,q⟩:=hh
  unfold ek at hf
  obtain⟨⟨rs,e1⟩,h1,hf⟩:=Pr hf
  match rs,h1,hf with
  | [r],h1,hf=>
  obtain⟨j,h2,hf⟩:=Pr hf
  split at hf
  case isFalse=>cases hf
  case isTrue hj=>
  cases hf
  refine⟨F,e,_,e1,R0,h1,fun F1 H1 vs X1 R1 A1=>?_⟩
  obtain⟨v,rfl,A2⟩:=uq A1
  have:=BG hj
  exact⟨j,by rw [cF A2 h2],by lia,by lia,q _ F1 H1 X1 R1 (fun _ h=>by cases h) wR⟩
open Classical in
noncomputable def lH(own:jZ)(g:FG)(f:FS):List PD→FS
  | [],e=>some (.nx e)
  | x::r,e=>(g x e).bind fun e1=>(f e1).bind fun fl=>match fl with
    | .nx e2=>if keeps own e2 then lH own g f r e2 else none
    | .ct e2=>if keeps own e2 then lH own g f r e2 else none
    | .bk e2=>some (.nx e2)
    | .rt v e2=>some (.rt v e2)
noncomputable def jM(W:List Nat)(fi:FI)(g:FG)(f:FS):FS:=fun e=>(fi e).bind fun p=>if (p.2.1.all fun q=> !W.contains q.1)=true then lH p.2.1 g f p.1 p.2.2 else none
theorem lV{W1 W2:List Nat}{iter:PH}{body:List PN}{fi:FI}{g:FG}{f:FS}(hp:PassesOwn (PQ X.prog X.w) X.A X.env X.xe)(hc:X.calm=true)(hi:PI X tg iter (fI K fi))(hg:PG X tg (fG K g W1))(hb:kQ X body (fS K f W2))(hs:∀x,SN iter X.env x=pure x):
    PS X (.For tg iter body [] pos) (fS K (jM (W1++W2) fi g f) (W1++W2)):=(Bg hp hc hi hg hb hs).mono fun D σ0 H0 hh=>by
  obtain⟨F0,e0,fl,R0,hf,q0⟩:=hh
  unfold jM at hf
  obtain⟨⟨items,own,e1⟩,h1,hf⟩:=Pr hf
  dsimp only at hf
  split at hf
  case isFalse=>cases hf
  case isTrue hW=>
  have hW':∀p∈own,p.1∉W1++W2:=fun p hp=>by
    have:=Qp.mp hW p hp
    simpa using this
  refine⟨F0,e0,items,own,e1,R0,h1,fun J F1 H1 X1 R1 kp ok=>?_⟩
  have s1:∀j,j∈W1→j∈W1++W2:=fun j h=>QU.mpr (.inl h)
  have s2:∀j,j∈W2→j∈W1++W2:=fun j h=>QU.mpr (.inr h)
  have q1:pN K (W1++W2) σ0 F1 H1 e1 D fl:=q0.later (W1:=[]) X1.s (fun j h=>by cases h) fun j h=>h
  refine⟨fun i m σ H=>m=items.length - i∧i≤items.length∧Kv K own σ0 F1 (fun e=>lH own g f (items.drop i) e=some fl) (fun σ F H e=>pN K (W1++W2) σ F H e D fl) σ H,
    ⟨items.length,by simp,Sb _,.mk R1 kp (fun _ _=>rfl) (ax.refl _) hf q1⟩,?_⟩
  rintro i m σ H ⟨rfl,hi,⟨R,kp,hσ,sF,hf,q⟩⟩
  rename_i F e
  have held:zP K σ0 F H own:=fun p hp=>by
    obtain⟨l,vs,g1,g2⟩:=R.held kp p hp
    exact⟨l,vs,by rw [←hσ p hp];exact g1,g2⟩
  obtain⟨go,stop,yld⟩:=ok F H sF R.sm held
  by_cases hlt:i < items.length
  · have hd:items.drop i=items[i]::items.drop (i+1):=TZ hlt
    rw [hd] at hf
    unfold lH at hf
    obtain⟨e2,h2,hf⟩:=Pr hf
    obtain⟨fl2,h3,hf⟩:=Pr hf
    refine .inr ⟨go i hlt,Kv K own σ0 F1 (fun e=>lH own g f (items.drop (i+1)) e=some fl) (fun σ F H e=>pN K (W1++W2) σ F H e D fl),
      fun σ' H' r=>⟨items.length - (i+1),by lia,rfl,hlt,r⟩,fun x H' hy=>?_⟩
    obtain⟨F',sH,sF',sm',fz,hx⟩:=yld i items[i] x H' (Rk hlt) hy
    obtain⟨R',X'⟩:=R.step sH sF' sm' fz
    refine⟨F',e,items[i],e2,R',hx,h2,fun σ2 x2 R2=>⟨F',e2,fl2,R2,h3,?_⟩⟩
    have q2:pN K (W1++W2) σ2 F' H' e2 D fl:=(q.later (W1:=[]) (W2:=W1++W2) X'.s (fun j h=>by cases h) fun j h=>h).later x2 s1 fun j h=>h
    have w2:∀p∈own,σ2[p.1]?=σ0[p.1]?:=fun p hp=>(x2.wr p.1 fun z=>hW' p hp (s1 _ z)).trans (hσ p hp)
    cases fl2 with
    | nx e3=>
      intro F3 H3 σ3 x3 R3
      dsimp only at hf
      split at hf
      case isFalse=>cases hf
      case isTrue kp3=>
      exact .mk R3 kp3 (fun p hp=>(x3.wr p.1 fun z=>hW' p hp (s2 _ z)).trans (w2 p hp)) (sF.trans (sF'.trans x3.sf)) hf (q2.later x3 s2 fun j h=>h)
    | ct e3=>
      intro F3 H3 σ3 x3 R3
      dsimp only at hf
      split at hf
      case isFalse=>cases hf
      case isTrue kp3=>
      exact .mk R3 kp3 (fun p hp=>(x3.wr p.1 fun z=>hW' p hp (s2 _ z)).trans (w2 p hp)) (sF.trans (sF'.trans x3.sf)) hf (q2.later x3 s2 fun j h=>h)
    | bk e3=>
      cases hf
      exact fun F3 H3 σ3 x3 R3=>q2 F3 H3 σ3 (x3.mono s2) R3
    | rt r e3=>
      cases hf
      exact fun F3 H3 σ3 v x3 R3 A3=>q2 F3 H3 σ3 v (x3.mono s2) R3 A3
  · have hd:items.drop i=[]:=UB (by lia)
    rw [hd] at hf
    cases hf
    exact .inl ⟨stop i (by lia),q F H σ eB.refl R⟩
end
def yh:Option (Option Sv)→Bool
  | some (some (.l _))=>true
  | _=>false
theorem CP{s:Option (Option Sv)}:yh s=true↔ ∃xs,s=some (some (.l xs)):=by
  unfold yh
  split
  · simp
  · rename_i h
    constructor
    · intro z;cases z
    · rintro⟨xs,rfl⟩;exact absurd rfl (h xs)
def qO(pos:Nat→Option Nat)(ei e:En):En:=e.mapIdx fun i s=>match s with
  | some (.l xs)=>match pos i with
    | some k=>(ei[k]?).join
    | none=>some (.l xs)
  | s=>s
theorem b_{pos:Nat→Option Nat}{ei e:En}{i:Nat}:(qO pos ei e)[i]?=(e[i]?).map fun s=>match s with
  | some (.l xs)=>match pos i with
    | some k=>(ei[k]?).join
    | none=>some (.l xs)
  | s=>s:=by unfold qO;rw [List.getElem?_mapIdx]
structure uI (σ:L2.St) (e:En) (σi:L2.St) (ei:En) (pos:Nat→Option Nat):Prop where
  a:∀(i k:Nat) (xs:List PD),e[i]?=some (some (.l xs))→pos i=some k→σi[k]?=σ[i]?
  b:∀(k:Nat) (ys:List PD),ei[k]?=some (some (.l ys))→∃(i:Nat) (xs:List PD),e[i]?=some (some (.l xs))∧pos i=some k∧σi[k]?=σ[i]?
section
variable{K:PF}{σ σi σi':L2.St}{F H F' H':Hp}{e ei ei':En}{pos:Nat→Option Nat}
def Ii(e:En):Prop:=∀(i:Nat) (xss:List (List PD)),e[i]?≠some (some (.n xss))
theorem uI.own(s:uI σ e σi ei pos)(hn:Ii ei){a:xM}{H H':Hp}(h:cj σi ei H a):∃(i k:Nat) (xs:List PD),e[i]?=some (some (.l xs))∧pos i=some k∧σ[i]?=some (some (.ref a)):=by
  obtain⟨k,⟨ys,h1,h2⟩ | ⟨xss,_,_,h1,_⟩⟩:=h
  · obtain⟨i,xs,g1,g2,g3⟩:=s.b k ys h1
    exact⟨i,k,xs,g1,g2,by rw [←g3];exact h2⟩
  · exact absurd h1 (hn k xss)
theorem vV(R:bj K F H σ e)(s:uI σ e σi ei pos)(hnn:Ii ei)(sf:ax F F')(dom:∀a,H' a=none→H a=none)(fr:∀a vs,F a=none→H a=some (.lst vs)→¬cj σi ei H a→F' a=none)(lst:∀a vs,H a=some (.lst vs)→∃vs',H' a=some (.lst vs'))
    (tmp:∀a o,H a=some o→¬cj σi ei H a→H' a=some o)(fd:∀a (m:DI),F a=none→H a=some m.1→¬cj σi ei H a→F' a=none)(R':bj K F' H' σi' ei')(hσ:∀(i k:Nat) (xs:List PD),e[i]?=some (some (.l xs))→pos i=some k→σi'[k]?=σi[k]?)(hsh:∀(i k:Nat) (xs:List PD),e[i]?=some (some (.l xs))→pos i=some k→∃ys,ei'[k]?=some (some (.l ys))):
    bj K F' H' σ (qO pos ei' e)∧dY σ F H e F' H' (qO pos ei' e)∧∀a,cj σ (qO pos ei' e) H' a→cj σ e H a:=by
  have shp:∀i:Nat,(∃xs,(qO pos ei' e)[i]?=some (some (.l xs)))↔ (∃xs,e[i]?=some (some (.l xs))):=by
    intro i
    rw [b_]
    match h:e[i]? with
    | none=>simp
    | some none=>simp
    | some (some (.d x))=>simp
    | some (some (.n x))=>simp
    | some (some (.l xs))=>
      simp only [Qy]
      constructor
      · intro _;exact⟨xs,rfl⟩
      · intro _
        match hp:pos i with
        | none=>exact⟨xs,rfl⟩
        | some k=>
          obtain⟨ys,g⟩:=hsh i k xs h hp
          exact⟨ys,by show some ((ei'[k]?).join)=_;rw [g];rfl⟩
  have oth:∀(i:Nat) (s:Sv),(∀xs,s≠.l xs)→((qO pos ei' e)[i]?=some (some s)↔ e[i]?=some (some s)):=by
    intro i s hs
    constructor
    · intro h
      rw [b_] at h
      match h1:e[i]?,h with
      | some (some (.d y)),h=>exact h
      | some (some (.n y)),h=>exact h
      | some (some (.l ys)),h=>
        simp only [Qy,Sk] at h
        match hp:pos i,h with
        | none,h=>cases h;exact absurd rfl (hs _)
        | some k,h=>
          obtain⟨zs,g⟩:=hsh i k ys h1 hp
          change (ei'[k]?).join=_ at h
          rw [g] at h;cases h;exact absurd rfl (hs _)
      | some none,h=>simp at h
      | none,h=>simp at h
    · intro h
      rw [b_,h]
      cases s with
      | d y=>rfl
      | n y=>rfl
      | l y=>exact absurd rfl (hs y)
  have out:∀i a,Fp σ e H i a→(∀k xs,e[i]?=some (some (.l xs))→pos i≠some k)→¬cj σi ei H a:=by
    intro i a hi hp z
    obtain⟨j,k,ws,d1,d2,d3⟩:=s.own hnn (H':=H') z
    have:i=j:=R.fp i j a hi (.inl ⟨ws,d1,d3⟩)
    subst this
    exact hp k ws d1 d2
  have keep:∀i a o,Fp σ e H i a→(∀k xs,e[i]?=some (some (.l xs))→pos i≠some k)→H a=some o→H' a=some o:=fun i a o hi hp ha=>tmp a o ha (out i a hi hp)
  have sown:∀a,cj σi ei H a→cj σ e H a:=fun a z=>by
    obtain⟨j,k,ws,d1,d2,d3⟩:=s.own hnn (H':=H') z
    exact⟨j,.inl ⟨ws,d1,d3⟩⟩
  have fs:∀i a,Fp σ (qO pos ei' e) H' i a↔ Fp σ e H i a:=by
    intro i a
    have key:∀xss l,e[i]?=some (some (.n xss))→σ[i]?=some (some (.ref l))→H' l=H l:=fun xss l h1 h2=>by
      obtain⟨l',bs,g1,g2,g3,_⟩:=R.nst i xss h1
      rw [h2] at g1;cases g1
      rw [g3]
      exact keep i l _ (.inr ⟨xss,l,bs,h1,h2,g3,.inl rfl⟩) (fun k xs z=>by rw [h1] at z;cases z) g3
    constructor
    · rintro(⟨xs,h1,h2⟩ | ⟨xss,l,bs,h1,h2,h3,h4⟩)
      · obtain⟨ys,h⟩:=(shp i).mp ⟨xs,h1⟩
        exact .inl ⟨ys,h,h2⟩
      · have h1':=(oth i (.n xss) (fun _ z=>nomatch z)).mp h1
        exact .inr ⟨xss,l,bs,h1',h2,by rw [←key xss l h1' h2];exact h3,h4⟩
    · rintro(⟨xs,h1,h2⟩ | ⟨xss,l,bs,h1,h2,h3,h4⟩)
      · obtain⟨ys,h⟩:=(shp i).mpr ⟨xs,h1⟩
        exact .inl ⟨ys,h,h2⟩
      · exact .inr ⟨xss,l,bs,(oth i (.n xss) (fun _ z=>nomatch z)).mpr h1,h2,by rw [key xss l h1 h2];exact h3,h4⟩
  refine⟨⟨R'.sm,?_,fun i x h=>?_,fun i xs h=>?_,fun i xss h=>?_,fun i j a h1 h2=>R.fp i j a ((fs i a).mp h1) ((fs j a).mp h2)⟩,⟨sf,dom,fun a vs h1 h2 n=>fr a vs h1 h2 fun z=>n (sown a z),lst,fun a o h n=>tmp a o h fun z=>n (sown a z),shp,fun a ⟨i,h⟩=>.inl ⟨i,(fs i a).mp h⟩,fun a m h1 h2 n=>fd a m h1 h2 fun z=>n (sown a z)⟩,fun a ⟨i,h⟩=>⟨i,(fs i a).mp h⟩⟩
  · unfold qO;rw [List.length_mapIdx];exact R.len
  · obtain⟨v,g1,g2⟩:=R.dat i x ((oth i (.d x) (fun _ z=>nomatch z)).mp h)
    exact⟨v,g1,DA.mono sf g2⟩
  · obtain⟨ys,h1⟩:=(shp i).mp ⟨xs,h⟩
    obtain⟨l,vs,g1,g2,g3,g4⟩:=R.own i ys h1
    rw [b_,h1] at h
    simp only [Qy,Sk] at h
    match hp:pos i,h with
    | none,h=>
      cases h
      have np:∀k xs,e[i]?=some (some (Sv.l xs))→pos i≠some k:=fun k xs _ z=>by rw [hp] at z;cases z
      have fi:Fp σ e H i l:=.inl ⟨_,h1,g1⟩
      exact⟨l,vs,g1,fr l vs g2 g3 (out i l fi np),keep i l _ fi np g3,g4.mono sf⟩
    | some k,h=>
      obtain⟨zs,c1⟩:=hsh i k ys h1 hp
      change (ei'[k]?).join=_ at h
      rw [c1] at h;cases h
      obtain⟨l',vs',d1,d2,d3,d4⟩:=R'.own k _ c1
      rw [hσ i k ys h1 hp,s.a i k ys h1 hp] at d1
      exact⟨l',vs',d1,d2,d3,d4⟩
  · have h1:=(oth i (.n xss) (fun _ z=>nomatch z)).mp h
    obtain⟨l,bs,g1,g2,g3,g4,g5,g6,g7⟩:=R.nst i xss h1
    have np:∀k xs,e[i]?=some (some (Sv.l xs))→pos i≠some k:=fun k xs z=>by rw [h1] at z;cases z
    have fi:Fp σ e H i l:=.inr ⟨xss,l,bs,h1,g1,g3,.inl rfl⟩
    refine⟨l,bs,g1,fr l _ g2 g3 (out i l fi np),keep i l _ fi np g3,g4,g5,g6,fun k b ys q1 q2=>?_⟩
    obtain⟨c1,us,c2,c3⟩:=g7 k b ys q1 q2
    have fb:Fp σ e H i b:=.inr ⟨xss,l,bs,h1,g1,g3,.inr (Py q1)⟩
    exact⟨fr b _ c1 c2 (out i b fb np),us,keep i b _ fb np c2,c3.mono sf⟩
end
def cz(e:En):List Rv→Option (List Sv)
  | []=>some []
  | .d x::r=>(cz e r).map (.d x::·)
  | .l xs::r=>(cz e r).map (.d (.list xs)::·)
  | .s i::r=>match e[i]? with
    | some (some (.l xs))=>(cz e r).map (.l xs::·)
    | _=>none
def aO:List Rv→List Nat
  | []=>[]
  | .s i::r=>i::aO r
  | .d _::r=>aO r
  | .l _::r=>aO r
def lU(rs:List Rv)(i:Nat):Option Nat:=rs.findIdx? fun r=>match r with
  | .s j=>j==i
  | _=>false
def noS:Rv→Prop
  | .s _=>False
  | _=>True
abbrev FM:=List Sv→Option (Rv × List Sv)
def eA(K:PF)(n:Nat)(m:FM):Sp:=fun vs H Q _=>vs.length=n∧∃F as r as',bj K F H (vs.map some) (as.map some)∧Ii (as.map some)∧m as=some (r,as')∧noS r∧
  ∀F' H' v,dY (vs.map some) F H (as.map some) F' H' (as'.map some)→bj K F' H' (vs.map some) (as'.map some)→cK K (vs.map some) H F' H' (as'.map some) r v→Q v H'
def bv:List Rv→List Sv→Bool
  | [],[]=>true
  | .s _::r,.l _::s=>bv r s
  | .d _::r,_::s=>bv r s
  | .l _::r,_::s=>bv r s
  | _,_=>false
def p9:Rv→Bool
  | .s _=>false
  | _=>true
def dZ:List Rv→List Sv→En→En
  | .s i::r,.l ys::s,e=>dZ r s (e.set i (some (.l ys)))
  | .d _::r,_::s,e=>dZ r s e
  | .l _::r,_::s,e=>dZ r s e
  | _,_,e=>e
def cB(n:Nat)(m:FM)(fs:FA):FE:=fun e=>(fs e).bind fun p=>(cz p.2 p.1).bind fun as=>(m as).bind fun z=>if p.1.length=n∧(aO p.1).Nodup∧bv p.1 z.2=true∧p9 z.1=true then some (z.1,dZ p.1 z.2 p.2) else none
theorem jH:∀{rs:List Rv} {as:List Sv},bv rs as=true→∀(k i:Nat),rs[k]?=some (.s i)→∃ys,as[k]?=some (.l ys)
  | [],[],_,k,i,h=>by simp at h
  | .s j::r,.l ys::s,h,k,i,hk=>by
    cases k with
    | zero=>exact⟨ys,rfl⟩
    | succ k=>simpa using jH (rs:=r) (as:=s) (by simpa [bv] using h) k i (by simpa using hk)
  | .d x::r,y::s,h,k,i,hk=>by
    cases k with
    | zero=>simp at hk
    | succ k=>simpa using jH (rs:=r) (as:=s) (by simpa [bv] using h) k i (by simpa using hk)
  | .l x::r,y::s,h,k,i,hk=>by
    cases k with
    | zero=>simp at hk
    | succ k=>simpa using jH (rs:=r) (as:=s) (by simpa [bv] using h) k i (by simpa using hk)
  | .s _::_,.d _::_,h,_,_,_=>by simp [bv] at h
  | .s _::_,[],h,_,_,_=>by simp [bv] at h
  | .d _::_,[],h,_,_,_=>by simp [bv] at h
  | .l _::_,[],h,_,_,_=>by simp [bv] at h
theorem nV{r0:Rv}{rs:List Rv}{i:Nat}:lU (r0::rs) i=if (match r0 with | .s j=>j==i | _=>false)=true then some 0 else(lU rs i).map (· +1):=by
  unfold lU;rw [List.findIdx?_cons]
theorem nW{rs:List Rv}{i k:Nat}(h:lU rs i=some k):rs[k]?=some (.s i):=by
  unfold lU at h
  rw [UP] at h
  obtain⟨hk,h1,_⟩:=h
  rw [Rk hk]
  split at h1
  · rename_i heq
    rw [heq]
    have:=eq_of_beq h1
    rw [this]
  · cases h1
theorem ig:∀{rs:List Rv} {i:Nat},i∈aO rs↔ Rv.s i∈rs
  | [],i=>by simp [aO]
  | .s j::r,i=>by simp [aO,ig (rs:=r)]
  | .d x::r,i=>by simp [aO,ig (rs:=r)]
  | .l x::r,i=>by simp [aO,ig (rs:=r)]
theorem iG:∀{rs:List Rv} {i k j:Nat},(aO rs).Nodup→rs[k]?=some (.s i)→rs[j]?=some (.s i)→k=j
  | [],i,k,j,_,h,_=>by simp at h
  | .s m::r,i,k,j,hn,h1,h2=>by
    simp only [aO,Sd] at hn
    cases k with
    | zero=>
      simp at h1;subst h1
      cases j with
      | zero=>rfl
      | succ j=>exact absurd (ig.mpr (Py (by simpa using h2))) hn.1
    | succ k=>
      cases j with
      | zero=>
        simp at h2;subst h2
        exact absurd (ig.mpr (Py (by simpa using h1))) hn.1
      | succ j=>
        have:=iG (rs:=r) (i:=i) (k:=k) (j:=j) hn.2 (by simpa using h1) (by simpa using h2)
        lia
  | .d x::r,i,k,j,hn,h1,h2=>by
    cases k with
    | zero=>simp at h1
    | succ k=>
      cases j with
      | zero=>simp at h2
      | succ j=>
        have:=iG (rs:=r) (i:=i) (k:=k) (j:=j) (by simpa [aO] using hn) (by simpa using h1) (by simpa using h2)
        lia
  | .l x::r,i,k,j,hn,h1,h2=>by
    cases k with
    | zero=>simp at h1
    | succ k=>
      cases j with
      | zero=>simp at h2
      | succ j=>
        have:=iG (rs:=r) (i:=i) (k:=k) (j:=j) (by simpa [aO] using hn) (by simpa using h1) (by simpa using h2)
        lia
theorem Be{rs:List Rv}{i:Nat}(h:i∉aO rs):lU rs i=none:=by
  unfold lU
  rw [Ua]
  intro r hr
  cases r with
  | d x=>rfl
  | l x=>rfl
  | s j=>
    have:j≠i:=fun z=>h (by rw [←z];exact ig.mpr hr)
    simpa using this
theorem pz:∀{rs:List Rv} {as:List Sv} {e:En},(aO rs).Nodup→bv rs as=true→(∀j∈aO rs,∃xs,e[j]?=some (some (.l xs)))→dZ rs as e=qO (lU rs) (as.map some) e
  | [],[],e,_,_,_=>by
    refine Si fun i=>?_
    rw [b_]
    have:lU [] i=none:=rfl
    rw [this]
    simp only [dZ]
    match e[i]? with
    | none=>rfl
    | some none=>rfl
    | some (some (.d x))=>rfl
    | some (some (.l x))=>rfl
    | some (some (.n x))=>rfl
  | .d x::r,y::s,e,hn,hl,hs=>by
    rw [show dZ (.d x::r) (y::s) e=dZ r s e from rfl,pz (by simpa [aO] using hn) (by simpa [bv] using hl) (fun j hj=>hs j (by simpa [aO] using hj))]
    refine Si fun i=>?_
    rw [b_,b_,nV]
    cases lU r i<;>simp
  | .l x::r,y::s,e,hn,hl,hs=>by
    rw [show dZ (.l x::r) (y::s) e=dZ r s e from rfl,pz (by simpa [aO] using hn) (by simpa [bv] using hl) (fun j hj=>hs j (by simpa [aO] using hj))]
    refine Si fun i=>?_
    rw [b_,b_,nV]
    cases lU r i<;>simp
  | .s k::r,.l ys::s,e,hn,hl,hs=>by
    simp only [aO,Sd] at hn
    obtain⟨xs,hk⟩:=hs k (by simp [aO])
    have hlt:k < e.length:=(Pu hk).1
    rw [show dZ (.s k::r) (.l ys::s) e=dZ r s (e.set k (some (.l ys))) from rfl,pz hn.2 (by simpa [bv] using hl) (fun j hj=>by
      have z:k≠j:=fun z=>hn.1 (by rw [z];exact hj)
      rw [Ql z]
      exact hs j (by simp [aO,hj]))]
    refine Si fun i=>?_
    rw [b_,b_,nV]
    by_cases z:k=i
    · subst z
      rw [Ru hlt,hk,Be hn.1]
      simp
    · rw [Ql z]
      have:((match (Rv.s k) with | .s j=>j==i | _=>false)=true)=False:=by simp [z]
      simp only [this,if_false]
      cases lU r i<;>simp
  | .s _::_,.d _::_,_,_,h,_=>by simp [bv] at h
  | .s _::_,.n _::_,_,_,h,_=>by simp [bv] at h
  | .s _::_,[],_,_,h,_=>by simp [bv] at h
  | .d _::_,[],_,_,h,_=>by simp [bv] at h
  | .l _::_,[],_,_,h,_=>by simp [bv] at h
  | [],_::_,_,_,h,_=>by simp [bv] at h
theorem gU{e:En}:∀{rs:List Rv} {as:List Sv},cz e rs=some as→∀j∈aO rs,∃xs,e[j]?=some (some (.l xs))
  | [],_,_,j,h=>by simp [aO] at h
  | .d x::rs,as,q,j,h=>by
    obtain⟨as',q1,rfl⟩:=Pt q
    exact gU q1 j (by simpa [aO] using h)
  | .l x::rs,as,q,j,h=>by
    obtain⟨as',q1,rfl⟩:=Pt q
    exact gU q1 j (by simpa [aO] using h)
  | .s k::rs,as,q,j,h=>by
    unfold cz at q
    match he:e[k]?,q with
    | some (some (.l xs)),q=>
      obtain⟨as',q1,rfl⟩:=Pt q
      simp only [aO,Qz] at h
      rcases h with rfl | h
      · exact⟨xs,he⟩
      · exact gU q1 j h
theorem l8{e:En}:∀{rs:List Rv} {as:List Sv} {k i:Nat},cz e rs=some as→rs[k]?=some (.s i)→∃xs,as[k]?=some (.l xs)
  | [],_,k,i,_,h=>by simp at h
  | .d x::rs,as,k,i,q,h=>by
    obtain⟨as',q1,rfl⟩:=Pt q
    cases k with
    | zero=>simp at h
    | succ k=>simpa using l8 (k:=k) (i:=i) q1 (by simpa using h)
  | .l x::rs,as,k,i,q,h=>by
    obtain⟨as',q1,rfl⟩:=Pt q
    cases k with
    | zero=>simp at h
    | succ k=>simpa using l8 (k:=k) (i:=i) q1 (by simpa using h)
  | .s j::rs,as,k,i,q,h=>by
    unfold cz at q
    match he:e[j]?,q with
    | some (some (.l xs)),q=>
      obtain⟨as',q1,rfl⟩:=Pt q
      cases k with
      | zero=>exact⟨xs,rfl⟩
      | succ k=>simpa using l8 (k:=k) (i:=i) q1 (by simpa using h)
section
variable{X:Cx}{K:PF}{σ:L2.St}{H0 H:Hp}{e:En}
theorem pk:∀{rs:List Rv} {vs:List V} {as:List Sv} {F:Hp},bj K F H σ e→eF K σ H0 F H e rs vs→cz e rs=some as→
    ∃F',bj K F' H σ e∧ax F F'∧(∀a,F a=none→H0 a≠none→F' a=none)∧vs.length=as.length∧rs.length=as.length∧
      (∀(k:Nat) (x:PD),as[k]?=some (.d x)→∃v,vs[k]?=some v∧DA K F' x v)∧∀(k:Nat) (xs:List PD),as[k]?=some (.l xs)→∃i,rs[k]?=some (.s i)∧e[i]?=some (some (.l xs))∧∃v,vs[k]?=some v∧σ[i]?=some (some v)
  | [],vs,as,F,R,h,q=>by
    cases q
    have h':vs=[]:=h
    subst h'
    exact⟨F,R,ax.refl _,fun _ h _=>h,rfl,rfl,fun k x h=>by simp at h,fun k x h=>by simp at h⟩
  | .d x::rs,_,as,F,R,h,q=>by
    obtain⟨v,ws,rfl,h1,h2⟩:=h
    obtain⟨as',q1,rfl⟩:=Pt q
    obtain⟨F',R',s',f',l1,l2,d',o'⟩:=pk R h2 q1
    refine⟨F',R',s',f',by simp [l1],by simp [l2],fun k y hk=>?_,fun k ys hk=>?_⟩
    · cases k with
      | zero=>simp at hk;subst hk;exact⟨v,rfl,DA.mono s' h1⟩
      | succ k=>simpa using d' k y (by simpa using hk)
    · cases k with
      | zero=>simp at hk
      | succ k=>simpa using o' k ys (by simpa using hk)
  | .l xs::rs,_,as,F,R,h,q=>by
    obtain⟨v,ws,rfl,h1,h2⟩:=h
    obtain⟨as',q1,rfl⟩:=Pt q
    obtain⟨F',R',s',f',l1,l2,d',o'⟩:=pk R h2 q1
    have key:∃F2,bj K F2 H σ e∧ax F' F2∧(∀a,F' a=none→H0 a≠none→F2 a=none)∧DA K F2 (.list xs) v:=by
      obtain⟨l,us,rfl,g1,g2,g3,g4,g5⟩:=h1
      cases hl:F' l with
      | none=>
        have h1':cK K σ H0 F' H e (.l xs) (.ref l):=⟨l,us,rfl,g1,hl,g3,aT.mono s' g4,g5⟩
        obtain⟨F2,R2,s2,d2,f2⟩:=h1'.frozen R'
        exact⟨F2,R2,s2,f2,d2⟩
      | some o=>
        have:=R'.sm _ _ hl
        rw [g3] at this;cases this
        exact⟨F',R',ax.refl _,fun _ h _=>h,gF.mpr ⟨l,us,rfl,.inl (.inl hl),aT.mono s' g4⟩⟩
    obtain⟨F2,R2,s2,f2,d2⟩:=key
    refine⟨F2,R2,s'.trans s2,fun a ha hn=>f2 a (f' a ha hn) hn,by simp [l1],by simp [l2],fun k y hk=>?_,fun k ys hk=>?_⟩
    · cases k with
      | zero=>simp at hk;subst hk;exact⟨v,rfl,d2⟩
      | succ k=>
        obtain⟨u,c1,c2⟩:=d' k y (by simpa using hk)
        exact⟨u,by simpa using c1,DA.mono s2 c2⟩
    · cases k with
      | zero=>simp at hk
      | succ k=>simpa using o' k ys (by simpa using hk)
  | .s i::rs,_,as,F,R,h,q=>by
    obtain⟨v,ws,rfl,h1,h2⟩:=h
    unfold cz at q
    match he:e[i]?,q with
    | some (some (.l xs)),q=>
      obtain⟨as',q1,rfl⟩:=Pt q
      obtain⟨F',R',s',f',l1,l2,d',o'⟩:=pk R h2 q1
      refine⟨F',R',s',f',by simp [l1],by simp [l2],fun k y hk=>?_,fun k ys hk=>?_⟩
      · cases k with
        | zero=>simp at hk
        | succ k=>simpa using d' k y (by simpa using hk)
      · cases k with
        | zero=>simp at hk;subst hk;exact⟨i,rfl,he,v,rfl,h1.1⟩
        | succ k=>simpa using o' k ys (by simpa using hk)
theorem hU{α:Type}{l:List α}{k:Nat}{x:α}:(l.map some)[k]?=some (some x)↔ l[k]?=some x:=by
  rw [Qu]
  cases l[k]?<;>simp
theorem cK.noS{σ':L2.St}{e':En}{F H:Hp}{r:Rv}{v:V}(h:cK K σ' H0 F H e' r v)(n:L2.noS r)(ho:∀a,cj σ e H a→H0 a≠none):cK K σ H0 F H e r v:=by
  cases r with
  | d x=>exact h
  | l xs=>
    obtain⟨l,vs,e1,h1,h2,h3,h4,_⟩:=h
    exact⟨l,vs,e1,h1,h2,h3,h4,fun z=>ho l z h1⟩
  | s i=>exact absurd n (by simp [L2.noS])
theorem jp:∀{rs:List Rv} {as:List Sv},cz e rs=some as→Ii (as.map some)
  | [],_,q=>by cases q;intro i xss h;simp at h
  | .d x::rs,as,q=>by
    obtain⟨as',q1,rfl⟩:=Pt q
    have ih:=jp q1
    intro i xss h
    cases i with
    | zero=>simp at h
    | succ i=>exact ih i xss (by simpa using h)
  | .l x::rs,as,q=>by
    obtain⟨as',q1,rfl⟩:=Pt q
    have ih:=jp q1
    intro i xss h
    cases i with
    | zero=>simp at h
    | succ i=>exact ih i xss (by simpa using h)
  | .s j::rs,as,q=>by
    unfold cz at q
    match he:e[j]?,q with
    | some (some (.l xs)),q=>
      obtain⟨as',q1,rfl⟩:=Pt q
      have ih:=jp q1
      intro i xss h
      cases i with
      | zero=>simp at h
      | succ i=>exact ih i xss (by simpa using h)
theorem HV{n:Nat}{m:FM}{fs:FA}{Q:VK}{E:XK}(h:fE K (cB n m fs) σ H Q):sJ (eA K n m) [] E (fA K fs) σ H Q:=by
  obtain⟨F,e,z,e',R,hf,q⟩:=h
  unfold cB at hf
  obtain⟨⟨rs,e1⟩,h1,hf⟩:=Pr hf
  obtain⟨as,h2,hf⟩:=Pr hf
  obtain⟨⟨r,as'⟩,h3,hf⟩:=Pr hf
  split at hf
  case isFalse=>cases hf
  case isTrue hc=>
  obtain⟨c1,c2,c3,c4⟩:=hc
  cases hf
  refine⟨F,e,rs,e1,R,h1,fun F1 H1 vs X1 R1 A1=>?_⟩
  obtain⟨F2,R2,s2,f2,l1,l2,d2,o2⟩:=pk R1 A1 h2
  have X2:=X1.frz s2 f2
  rw [Rh]
  have hn:L2.noS r:=by
    cases r with
    | d x=>trivial
    | l x=>trivial
    | s i=>cases c4
  have nN:=jp h2
  have RA:bj K F2 H1 (vs.map some) (as.map some):=by
    refine⟨R2.sm,by simp [l1],fun k x hk=>?_,fun k xs hk=>?_,fun k xss hk=>absurd hk (nN k xss),fun k j l f1 f2=>?_⟩
    · obtain⟨v,g1,g2⟩:=d2 k x (hU.mp hk)
      exact⟨v,hU.mpr g1,g2⟩
    · obtain⟨i,g1,g2,v,g3,g4⟩:=o2 k xs (hU.mp hk)
      obtain⟨l,us,k1,k2,k3,k4⟩:=R2.own i xs g2
      rw [g4] at k1;cases k1
      exact⟨l,us,hU.mpr g3,k2,k3,k4⟩
    · obtain⟨xs,g1,g3⟩:=f1.resolve_right fun⟨xss,_,_,z,_⟩=>nN k xss z
      obtain⟨ys,g2,g4⟩:=f2.resolve_right fun⟨xss,_,_,z,_⟩=>nN j xss z
      obtain⟨i1,a1,a2,v1,a3,a4⟩:=o2 k xs (hU.mp g1)
      obtain⟨i2,b1,b2,v2,b3,b4⟩:=o2 j ys (hU.mp g2)
      have e1:=hU.mp g3
      have e2:=hU.mp g4
      rw [a3] at e1;cases e1
      rw [b3] at e2;cases e2
      have:i1=i2:=R2.inj i1 i2 xs ys l a2 b2 a4 b4
      subst this
      exact iG c2 a1 b1
  have sub:uI σ e1 (vs.map some) (as.map some) (lU rs):=by
    refine⟨fun i k xs g1 g2=>?_,fun k ys g1=>?_⟩
    · have g3:=nW g2
      obtain⟨zs,hs⟩:=l8 h2 g3
      obtain⟨i',a1,a2,v,a3,a4⟩:=o2 k zs hs
      rw [g3] at a1;cases a1
      rw [hU.mpr a3,a4]
    · obtain⟨i,a1,a2,v,a3,a4⟩:=o2 k ys (hU.mp g1)
      refine⟨i,ys,a2,?_,by rw [hU.mpr a3,a4]⟩
      cases hp:lU rs i with
      | none=>
        unfold lU at hp
        rw [Ua] at hp
        have:=hp _ (Py a1)
        simp at this
      | some j=>rw [iG c2 (nW hp) a1]
  refine⟨by rw [l1,←l2];exact c1,F2,as,r,as',RA,nN,h3,hn,fun F' H' v X3 R3 A3=>?_⟩
  obtain⟨R4,X4,o4⟩:=vV R2 sub nN X3.sf X3.dom X3.fr X3.lst X3.tmp X3.fd R3 (fun _ _ _ _ _=>rfl) fun i k xs g1 g2=>by
    obtain⟨ys,g3⟩:=jH c3 k i (nW g2)
    exact⟨ys,hU.mpr g3⟩
  have hb:=pz (e:=e1) c2 c3 (gU h2)
  rw [←hb] at R4 X4 o4
  exact q F' H' v (X2.trans X4) R4 ((A3.noS hn fun a z=>R2.ownH a (o4 a z)).weak X2.dom)
theorem bD{x:Str}{st:PN}{f:xM}{fd:PZ}{ps:List Str}{k n:Nat}{m:FM}{a:PH}{es:List PH}{fs:FA}{p pos:Pos}(h:fy X.K X.mg x st f fd ps)(G:aP X.prog X.w X.K X.mg X.base cM k f fd ps (eA K n m))(hr:cg k X.A)(ha:PA X (a::es) (fA K fs))
    (hg:Gl X x)(hdb:(x==("__debug__":Str))=false)(he:PU (a::es) X.env=(false,PV a X.env)::PU es X.env)(hpl:(Qf pos (PU es X.env)).any (·.1)=false):
    PE X (.Call (.Name x p) (a::es) [] pos) (fE K (cB n m fs)):=(Jt h G hr ha hg hdb he hpl).mono fun _ _ _ h=>HV h
def sP:List Sv→En→Option (List Sv)
  | [],_=>some []
  | .d x::r,e=>(sP r e.tail).map (.d x::·)
  | .l _::r,e=>match e.head? with
    | some (some (.l ys))=>(sP r e.tail).map (.l ys::·)
    | _=>none
  | .n _::_,_=>none
def pM(n:Nat)(e:En):Rv→Option Rv
  | .s i=>if n≤i then match e[i]? with
      | some (some (.l xs))=>some (.l xs)
      | _=>none
    else none
  | r=>some r
def jU(W:List Nat)(as:List Sv):Bool:=W.all fun j=>match as[j]? with
  | some (.l _)=>false
  | _=>true
def gQ(n k:Nat)(W:List Nat)(f:FS):FM:=fun as=>if as.length=n∧jU W as=true then(f (as.map some++PX k none)).bind fun fl=>match fl with
    | .rt r e=>(pM n e r).bind fun r'=>(sP as e).map fun as'=>(r',as')
    | .nx e=>(sP as e).map fun as'=>(.d .none,as')
    | _=>none
  else none
theorem pC:∀{as as':List Sv} {e:En},sP as e=some as'→as'.length=as.length∧(∀(j:Nat) (x:PD),as'[j]?=some (.d x)↔ as[j]?=some (.d x))∧(∀(j:Nat) (ys:List PD),as'[j]?=some (.l ys)→(∃xs,as[j]?=some (.l xs))∧e[j]?=some (some (.l ys)))∧∀(j:Nat) (xs:List PD),as[j]?=some (.l xs)→∃ys,as'[j]?=some (.l ys)
  | [],_,e,h=>by cases h;simp
  | .d x::r,_,e,h=>by
    obtain⟨s,h1,rfl⟩:=Pt h
    obtain⟨g1,g2,g3,g4⟩:=pC h1
    refine⟨by simp [g1],fun j y=>?_,fun j ys hj=>?_,fun j xs hj=>?_⟩
    · cases j with
      | zero=>simp
      | succ j=>simpa using g2 j y
    · cases j with
      | zero=>simp at hj
      | succ j=>
        obtain⟨c1,c2⟩:=g3 j ys (by simpa using hj)
        refine⟨by simpa using c1,?_⟩
        rw [List.getElem?_tail] at c2
        exact c2
    · cases j with
      | zero=>simp at hj
      | succ j=>simpa using g4 j xs (by simpa using hj)
  | .l xs::r,_,e,h=>by
    unfold sP at h
    match he:e.head?,h with
    | some (some (.l ys)),h=>
      obtain⟨s,h1,rfl⟩:=Pt h
      obtain⟨g1,g2,g3,g4⟩:=pC h1
      refine⟨by simp [g1],fun j y=>?_,fun j zs hj=>?_,fun j zs hj=>?_⟩
      · cases j with
        | zero=>simp
        | succ j=>simpa using g2 j y
      · cases j with
        | zero=>
          simp at hj;subst hj
          exact⟨⟨xs,rfl⟩,by rw [List.head?_eq_getElem?] at he;exact he⟩
        | succ j=>
          obtain⟨c1,c2⟩:=g3 j zs (by simpa using hj)
          refine⟨by simpa using c1,?_⟩
          rw [List.getElem?_tail] at c2
          exact c2
      · cases j with
        | zero=>exact⟨ys,rfl⟩
        | succ j=>simpa using g4 j zs (by simpa using hj)
  | .n x::r,_,e,h=>by simp [sP] at h
end
theorem fV{α:Type}{l:List (Option α)}{k i:Nat}{x:α}(h:(l++PX k none)[i]?=some (some x)):l[i]?=some (some x):=by
  rw [List.getElem?_append] at h
  split at h
  · exact h
  · rw [Uq] at h
    split at h<;>simp at h
theorem gq{α:Type}{l:List (Option α)}{k i:Nat}{x:α}(h:l[i]?=some (some x)):(l++PX k none)[i]?=some (some x):=by
  have hi:i < l.length:=(Pu h).1
  rw [RC hi];exact h
section
variable{K:PF}{F H:Hp}{σ:L2.St}{e:En}{k:Nat}
theorem tP{i:Nat}{a:xM}:Fp (σ++PX k none) (e++PX k none) H i a↔ Fp σ e H i a:=by
  constructor
  · rintro(⟨xs,h1,h2⟩ | ⟨xss,l,bs,h1,h2,h3⟩)
    · exact .inl ⟨xs,fV h1,fV h2⟩
    · exact .inr ⟨xss,l,bs,fV h1,fV h2,h3⟩
  · rintro(⟨xs,h1,h2⟩ | ⟨xss,l,bs,h1,h2,h3⟩)
    · exact .inl ⟨xs,gq h1,gq h2⟩
    · exact .inr ⟨xss,l,bs,gq h1,gq h2,h3⟩
theorem hZ{a:xM}:cj (σ++PX k none) (e++PX k none) H a↔ cj σ e H a:=⟨fun⟨i,h⟩=>⟨i,tP.mp h⟩,fun⟨i,h⟩=>⟨i,tP.mpr h⟩⟩
theorem bj.pad(R:bj K F H σ e):bj K F H (σ++PX k none) (e++PX k none):=by
  refine⟨R.sm,by simp [R.len],fun i x h=>?_,fun i xs h=>?_,fun i xss h=>?_,fun i j a h1 h2=>R.fp i j a (tP.mp h1) (tP.mp h2)⟩
  · obtain⟨v,g1,g2⟩:=R.dat i x (fV h)
    exact⟨v,gq g1,g2⟩
  · obtain⟨l,vs,g1,g2⟩:=R.own i xs (fV h)
    exact⟨l,vs,gq g1,g2⟩
  · obtain⟨l,bs,g1,g2⟩:=R.nst i xss (fV h)
    exact⟨l,bs,gq g1,g2⟩
end
theorem ux:∀{as as':List Sv} {e:En},sP as e=some as'→Ii (as'.map some)
  | [],_,e,h=>by cases h;intro i xss z;simp at z
  | .d x::r,_,e,h=>by
    obtain⟨s,h1,rfl⟩:=Pt h
    have ih:=ux h1
    intro i xss z
    cases i with
    | zero=>simp at z
    | succ i=>exact ih i xss (by simpa using z)
  | .l xs::r,_,e,h=>by
    unfold sP at h
    match he:e.head?,h with
    | some (some (.l ys)),h=>
      obtain⟨s,h1,rfl⟩:=Pt h
      have ih:=ux h1
      intro i xss z
      cases i with
      | zero=>simp at z
      | succ i=>exact ih i xss (by simpa using z)
  | .n x::r,_,e,h=>by simp [sP] at h
theorem vq{W:List Nat}{as:List Sv}(h:jU W as=true){j:Nat}{xs:List PD}(hj:as[j]?=some (.l xs)):j∉W:=fun z=>by
  unfold jU at h
  have:=Qp.mp h j z
  rw [hj] at this
  cases this
section
variable{P:PK}{w:PJ}{K:PF}{mg:Str→Option MG}{base:PL}
theorem fy.fn{x:Str}{st:PN}{f:xM}{fd:PZ}{N ps:List Str}{k n k0:Nat}{W:List Nat}{fb:FS}(h:fy K mg x st f fd ps)(S:az N ps (ar st))(hn:ps.length=n)(hN:N.length=n+k0)
    (hb:∀(cdv:MG) (A:PP) (outer:List Env) (s:PB) (H:Hp) (E:XK),cg k (A.deeper (envOfC x (ar st) s.heap.objs.size f cdv))→kQ (uT cM P w K mg base N x (ar st) f cdv A outer s H E).nox (cO st) (fS K fb W)):
    aP P w K mg base cM (k+1) f fd ps (eA K n (gQ n k0 W fb)):=by
  refine h.F.ok S (fun vs H Q E q=>?_) fun cdv A outer s H vs Q E hr hsp=>⟨_,hb cdv A outer s H E hr,?_⟩
  · rw [hn];exact q.1
  · obtain⟨hl,F,as,r,as',R,nN,hm,nr,q⟩:=hsp
    unfold gQ at hm
    split at hm
    case isFalse=>cases hm
    case isTrue hc=>
    obtain⟨la,nl⟩:=hc
    obtain⟨fl,h1,hm⟩:=Pr hm
    have hst:iP N vs=vs.map some++PX k0 none:=by unfold iP;rw [hN,hl];congr 2;lia
    rw [hst]
    have key:∀{as':List Sv} {e':En},sP as e'=some as'→∀F' H' σ',eB W (vs.map some++PX k0 none) F H (as.map some++PX k0 none) σ' F' H' e'→bj K F' H' σ' e'→
        dY (vs.map some) F H (as.map some) F' H' (as'.map some)∧bj K F' H' (vs.map some) (as'.map some)∧∀a,cj (vs.map some) (as'.map some) H' a→cj (vs.map some) (as.map some) H a:=by
      intro as' e' hu F' H' σ' X' R'
      obtain⟨u1,u2,u3,u4⟩:=pC hu
      have uN:=ux hu
      have ow:∀a,cj (vs.map some) (as'.map some) H' a→cj (vs.map some) (as.map some) H a:=by
        rintro a ⟨j,⟨ys,c1,c2⟩ | ⟨xss,_,_,z,_⟩⟩
        · obtain⟨⟨xs,c3⟩,_⟩:=u3 j ys (hU.mp c1)
          exact⟨j,.inl ⟨xs,hU.mpr c3,c2⟩⟩
        · exact absurd z (uN j xss)
      have sg:∀(j:Nat) (xs:List PD),as[j]?=some (.l xs)→σ'[j]?=(vs.map some)[j]?:=fun j xs hj=>by
        rw [X'.wr j (vq nl hj)]
        have hj2:j < (vs.map some).length:=by rw [Qh,hl,←la];exact(Pu hj).1
        rw [RC hj2]
      refine⟨⟨X'.sf,X'.dom,fun a vs h1 h2 hn=>X'.fr a vs h1 h2 fun z=>hn (hZ.mp z),X'.lst,fun a o ha hn=>X'.tmp a o ha fun z=>hn (hZ.mp z),fun j=>?_,fun a z=>.inl (ow a z),fun a m h1 h2 hn=>X'.fd a m h1 h2 fun z=>hn (hZ.mp z)⟩,⟨R'.sm,?_,fun j y hj=>?_,fun j ys hj=>?_,fun j xss hj=>absurd hj (uN j xss),fun j i l f1 f2=>?_⟩,ow⟩
      · constructor
        · rintro⟨ys,hj⟩
          obtain⟨⟨xs,c⟩,_⟩:=u3 j ys (hU.mp hj)
          exact⟨xs,hU.mpr c⟩
        · rintro⟨xs,hj⟩
          obtain⟨ys,c⟩:=u4 j xs (hU.mp hj)
          exact⟨ys,hU.mpr c⟩
      · simp [u1,hl,la]
      · obtain⟨v,c1,c2⟩:=R.dat j y (hU.mpr ((u2 j y).mp (hU.mp hj)))
        exact⟨v,c1,DA.mono X'.sf c2⟩
      · obtain⟨⟨xs,c1⟩,c2⟩:=u3 j ys (hU.mp hj)
        obtain⟨l,us,d1,d2⟩:=R'.own j ys c2
        exact⟨l,us,by rw [←sg j xs c1];exact d1,d2⟩
      · obtain⟨xs,g1,g3⟩:=f1.resolve_right fun⟨xss,_,_,z,_⟩=>uN j xss z
        obtain⟨ys,g2,g4⟩:=f2.resolve_right fun⟨xss,_,_,z,_⟩=>uN i xss z
        obtain⟨⟨zs,c1⟩,c2⟩:=u3 j xs (hU.mp g1)
        obtain⟨⟨ws,c3⟩,c4⟩:=u3 i ys (hU.mp g2)
        exact R'.inj j i xs ys l c2 c4 (by rw [sg j zs c1];exact g3) (by rw [sg i ws c3];exact g4)
    refine⟨F,as.map some++PX k0 none,fl,R.pad,h1,?_⟩
    cases fl with
    | bk e'=>cases hm
    | ct e'=>cases hm
    | nx e'=>
      obtain⟨as2,h2,hm⟩:=Pt hm
      cases hm
      intro F' H' σ' X' R'
      obtain⟨X2,R2,_⟩:=key h2 F' H' σ' X' R'
      exact q F' H' .non X2 R2 ((gW (K:=K) (F:=F')).mpr rfl)
    | rt r0 e'=>
      obtain⟨r1,h2,hm⟩:=Pr hm
      obtain⟨as2,h3,hm⟩:=Pt hm
      cases hm
      intro F' H' σ' v X' R' A'
      obtain⟨X2,R2,ow2⟩:=key h3 F' H' σ' X' R'
      have noo:∀l,H l=none→¬cj (vs.map some) (as'.map some) H' l:=fun l hl z=>R.ownH l (ow2 l z) hl
      refine q F' H' v X2 R2 ?_
      cases r0 with
      | d y=>cases h2;exact A'
      | l ys=>
        cases h2
        obtain⟨l,us,d0,d1,d2,d3,d4,_⟩:=A'
        exact⟨l,us,d0,d1,d2,d3,d4,noo l d1⟩
      | s i=>
        simp only [pM] at h2
        split at h2
        case isFalse=>cases h2
        case isTrue hi=>
        obtain⟨a1,xs,a2⟩:=A'
        rw [a2] at h2
        cases h2
        obtain⟨l,us,d1,d2,d3,d4⟩:=R'.own i _ a2
        rw [a1] at d1;cases d1
        suffices hl0:H l=none from⟨l,us,rfl,hl0,d2,d3,d4,noo l hl0⟩
        rcases X'.own l ⟨i,.inl ⟨_,a2,a1⟩⟩ with z | z
        · obtain⟨j,zf⟩:=hZ.mp z
          obtain⟨ys,z1,z2⟩:=zf.resolve_right fun⟨xss,_,_,z,_⟩=>nN j xss z
          have z1':=hU.mp z1
          obtain⟨u1,u2,u3,u4⟩:=pC h3
          obtain⟨ws,w1⟩:=u4 j ys z1'
          obtain⟨_,w2⟩:=u3 j ws w1
          have hj2:j < vs.length:=by rw [hl,←la];exact(Pu z1').1
          have e3:σ'[j]?=some (some (.ref l)):=by
            rw [X'.wr j (vq nl z1'),RC (by simpa using hj2)]
            exact z2
          have:=R'.inj i j _ ws l a2 w2 a1 e3
          lia
        · exact z
end
def Jd:Option Sv→Option Sv
  | some (.n _)=>none
  | s=>s
def tS(cp:List (Nat × Str))(nT:Nat)(e:En):En:=cp.map (fun p=>Jd (e[p.1]?).join)++PX nT none
def nU(cp:List (Nat × Str))(i:Nat):Option Nat:=cp.findIdx? fun p=>p.1==i
def gc(g:FG)(ft:FT)(fe:FE):List PD→En→List PD→Option (List PD × En)
  | [],e,acc=>some (acc,e)
  | x::r,e,acc=>(g x e).bind fun e1=>(ft e1).bind fun b=>if b.1=true then(fe b.2).bind fun v=>(iw v.1).bind fun d=>if acc.length < 1000000 then gc g ft fe r v.2 (acc++[d]) else none else gc g ft fe r b.2 acc
def jt(cp:List (Nat × Str))(ei e:En):Bool:=cp.all fun p=> !yh e[p.1]? || yh ei[(nU cp p.1).getD 0]?
def cf(cp:List (Nat × Str))(nT:Nat)(fi:FI)(g:FG)(ft:FT)(fe:FE):FE:=fun e=>(fi e).bind fun p=>if (p.2.1.all fun q=> !(cp.any fun c=>c.1==q.1))=true then(gc g ft fe p.1 (tS cp nT p.2.2) []).bind fun z=>if jt cp z.2 p.2.2=true then some (.l z.1,qO (nU cp) z.2 p.2.2) else none else none
section
variable{K:PF}{F H:Hp}{σ:L2.St}{e:En}{cp:List (Nat × Str)}{nT:Nat}
theorem fN{i k:Nat}(h:nU cp i=some k):∃s,cp[k]?=some (i,s):=by
  unfold nU at h
  rw [UP] at h
  obtain⟨hk,h1,_⟩:=h
  refine⟨cp[k].2,?_⟩
  rw [Rk hk]
  have:=eq_of_beq h1
  rw [←this]
theorem kZ{k:Nat}{x:Sv}(h:(tS cp nT e)[k]?=some (some x)):∃i s,cp[k]?=some (i,s)∧e[i]?=some (some x):=by
  unfold tS at h
  have h:=fV h
  rw [Qu] at h
  obtain⟨p,h1,h2⟩:=Pt h
  refine⟨p.1,p.2,h1,?_⟩
  cases q:e[p.1]? with
  | none=>rw [q] at h2;cases h2
  | some y=>
    rw [q] at h2
    match y,h2 with
    | some (.d z),h2=>exact congrArg some h2
    | some (.l z),h2=>exact congrArg some h2
    | some (.n z),h2=>cases h2
    | none,h2=>cases h2
theorem mH:Ii (tS cp nT e):=by
  intro k xss h
  unfold tS at h
  have h:=fV h
  rw [Qu] at h
  obtain⟨p,h1,h2⟩:=Pt h
  match (e[p.1]?).join,h2 with
  | some (.d z),h2=>cases h2
  | some (.l z),h2=>cases h2
  | some (.n z),h2=>cases h2
  | none,h2=>cases h2
theorem pB{k i:Nat}{s:Str}{v:V}(h:cp[k]?=some (i,s))(hv:σ[i]?=some (some v)):(jP cp nT σ)[k]?=some (some v):=by
  unfold jP
  refine gq ?_
  rw [Qu,h]
  simp [hv]
theorem qJ{k i:Nat}{s:Str}{v:V}(h:cp[k]?=some (i,s))(hv:(jP cp nT σ)[k]?=some (some v)):σ[i]?=some (some v):=by
  unfold jP at hv
  have hv:=fV hv
  rw [Qu,h] at hv
  simp only [Qy,Sk] at hv
  cases q:σ[i]? with
  | none=>rw [q] at hv;cases hv
  | some y=>rw [q] at hv;exact congrArg some hv
theorem tK:∀{cp:List (Nat × Str)} {k j i:Nat} {s t:Str},(cp.map (·.1)).Nodup→cp[k]?=some (i,s)→cp[j]?=some (i,t)→k=j
  | [],k,j,i,s,t,_,h,_=>by simp at h
  | p::r,k,j,i,s,t,hn,h1,h2=>by
    simp only [Qk,Sd] at hn
    cases k with
    | zero=>
      simp at h1;subst h1
      cases j with
      | zero=>rfl
      | succ j=>
        have hm:(i,t)∈r:=Py (i:=j) (by simpa using h2)
        exact absurd (SH.mpr ⟨(i,t),hm,rfl⟩) hn.1
    | succ k=>
      cases j with
      | zero=>
        simp at h2;subst h2
        have hm:(i,s)∈r:=Py (i:=k) (by simpa using h1)
        exact absurd (SH.mpr ⟨(i,s),hm,rfl⟩) hn.1
      | succ j=>
        have:=tK (cp:=r) (k:=k) (j:=j) hn.2 (by simpa using h1) (by simpa using h2)
        lia
theorem bj.inn(R:bj K F H σ e)(hn:(cp.map (·.1)).Nodup):bj K F H (jP cp nT σ) (tS cp nT e)∧uI σ e (jP cp nT σ) (tS cp nT e) (nU cp):=by
  refine⟨⟨R.sm,by simp [jP,tS],fun k x h=>?_,fun k xs h=>?_,fun k xss h=>absurd h (mH k xss),fun k j l f1 f2=>?_⟩,⟨fun i k xs h1 h2=>?_,fun k ys h=>?_⟩⟩
  · obtain⟨i,s,h1,h2⟩:=kZ h
    obtain⟨v,g1,g2⟩:=R.dat i x h2
    exact⟨v,pB h1 g1,g2⟩
  · obtain⟨i,s,h1,h2⟩:=kZ h
    obtain⟨l,vs,g1,g2⟩:=R.own i xs h2
    exact⟨l,vs,pB h1 g1,g2⟩
  · obtain⟨xs,h1,h3⟩:=f1.resolve_right fun⟨xss,_,_,z,_⟩=>mH k xss z
    obtain⟨ys,h2,h4⟩:=f2.resolve_right fun⟨xss,_,_,z,_⟩=>mH j xss z
    obtain⟨i,s,a1,a2⟩:=kZ h1
    obtain⟨i',s',b1,b2⟩:=kZ h2
    have:i=i':=R.inj i i' xs ys l a2 b2 (qJ a1 h3) (qJ b1 h4)
    subst this
    exact tK hn a1 b1
  · obtain⟨s,g⟩:=fN h2
    obtain⟨l,vs,g1,_⟩:=R.own i xs h1
    rw [g1];exact pB g g1
  · obtain⟨i,s,h1,h2⟩:=kZ h
    obtain⟨l,vs,g1,_⟩:=R.own i ys h2
    refine⟨i,ys,h2,?_,by rw [g1];exact pB h1 g1⟩
    cases hp:nU cp i with
    | none=>
      unfold nU at hp
      rw [Ua] at hp
      have:=hp _ (Py h1)
      simp at this
    | some j=>
      obtain⟨t,g⟩:=fN hp
      rw [tK hn g h1]
theorem bj.putT(R:bj K F H σ e){l:xM}{ws:List V}(h1:F l=none)(h2:¬cj σ e H l):bj K F (cy H l (.lst ws)) σ e∧∀a,cj σ e (cy H l (.lst ws)) a↔ cj σ e H a:=
  R.keep (ax.refl F) (fun b o q=>by
    have z:b≠l:=fun z=>by rw [z,h1] at q;cases q
    rw [aY z];exact R.sm b o q) (fun a ⟨i,h⟩=>(R.fpAt h).1) fun a o ha q=>by
      have z:a≠l:=fun z=>h2 (by rw [←z];exact ha)
      rw [aY z];exact q
theorem eB.putT{W:List Nat}{σ':L2.St}{F' H':Hp}{e':En}(x:eB W σ F H e σ' F' H' e'){l:xM}{o:HO}(h:H l=none)(ho:∀a,cj σ' e' (cy H' l o) a↔ cj σ' e' H' a):eB W σ F H e σ' F' (cy H' l o) e':=by
  refine⟨x.sf,fun a q=>?_,x.fr,fun a vs q=>?_,fun a u q n=>?_,fun a q=>x.own a ((ho a).mp q),x.wr,x.fd⟩
  · by_cases z:a=l
    · rw [z];exact h
    · rw [aY z] at q;exact x.dom a q
  · have z:a≠l:=fun z=>by rw [z,h] at q;cases q
    rw [aY z];exact x.lst a vs q
  · have z:a≠l:=fun z=>by rw [z,h] at q;cases q
    rw [aY z];exact x.tmp a u q n
inductive CI (K:PF) (W:List Nat) (σ0:L2.St) (F1 H1:Hp) (e0:En) (l:xM) (P:Hp→En→List PD→Prop) (σ':L2.St) (H':Hp):Prop
  | mk {F':Hp} {ei:En} {acc:List PD} {vs:List V} (R:bj K F' H' σ' ei) (X:eB W σ0 F1 H1 e0 σ' F' H' ei) (fl:F' l=none) (no:¬cj σ' ei H' l) (hl:H' l=some (.lst vs)) (da:aT K F' acc vs) (hc:P F' ei acc):CI K W σ0 F1 H1 e0 l P σ' H'
theorem B_{Q:VK}{fi:FI}{g:FG}{W:List Nat}{ft:FT}{fe:FE}(hn:(cp.map (·.1)).Nodup)(hW:∀j∈W,cp.length≤j)(h:fE K (cf cp nT fi g ft fe) σ H Q):B1 cp nT (fI K fi) (fG K g W) (fT K ft) (fE K fe) σ H Q:=by
  obtain⟨F0,e0,z,e',R0,hf,q⟩:=h
  unfold cf at hf
  obtain⟨⟨items,own,e1⟩,h1,hf⟩:=Pr hf
  dsimp only at hf
  split at hf
  case isFalse=>cases hf
  case isTrue hO=>
  obtain⟨⟨out,eo⟩,h2,hf⟩:=Pr hf
  dsimp only at hf
  split at hf
  case isFalse=>cases hf
  case isTrue hB=>
  cases hf
  refine⟨⟨F0,e0,items,own,e1,R0,h1,fun J F1 H1 X1 R1 kp ok=>?_⟩⟩
  intro l hl
  obtain⟨Ri,sub⟩:=R1.inn (nT:=nT) hn
  have hFl:F1 l=none:=R1.freeF hl
  let Iv:Nat→L2.St→Hp→Prop:=fun i=>CI K W (jP cp nT σ) F1 H1 (tS cp nT e1) l fun _ ei acc=>gc g ft fe (items.drop i) ei acc=some (out,eo)
  have notown:∀p∈own,∀a,σ[p.1]?=some (some (.ref a))→¬cj (jP cp nT σ) (tS cp nT e1) H1 a:=by
    rintro p hp a ha ⟨k,zf⟩
    obtain⟨xs,c1,c2⟩:=zf.resolve_right fun⟨xss,_,_,z,_⟩=>mH k xss z
    obtain⟨i,s,d1,d2⟩:=kZ c1
    have e2:=qJ d1 c2
    have:p.1=i:=R1.inj p.1 i p.2 xs a (kp p hp) d2 ha e2
    have hh:=Qp.mp hO p hp
    simp only [Bool.not_eq_true',Tx,beq_iff_eq] at hh
    exact hh (i,s) (Py d1) this.symm
  refine⟨fun i m σ' H'=>m=items.length - i∧i≤items.length∧Iv i σ' H',⟨items.length,by simp,Sb _,.mk (Ri.putT hFl (fun z=>(Ri.ownH l z) hl)).1 (eB.refl.putT hl (Ri.putT hFl (fun z=>(Ri.ownH l z) hl)).2) hFl (fun z=>(Ri.ownH l (((Ri.putT hFl (fun z=>(Ri.ownH l z) hl)).2 l).mp z)) hl) aM aT.nil h2⟩,?_⟩
  rintro i m σ' H' ⟨rfl,hi,⟨R',X',fl,no,hl',da,hc⟩⟩
  rename_i F' ei acc vs
  have held:zP K σ F' H' own:=fun p hp=>by
    obtain⟨a,us,c1,c2,c3,c4⟩:=R1.own p.1 p.2 (kp p hp)
    exact⟨a,us,c1,X'.tmp a _ c3 (notown p hp a c1),c4.mono X'.sf⟩
  obtain⟨go,stop,yld⟩:=ok F' H' X'.sf R'.sm held
  by_cases hlt:i < items.length
  · have hd:items.drop i=items[i]::items.drop (i+1):=TZ hlt
    rw [hd] at hc
    unfold gc at hc
    obtain⟨e2,c2,hc⟩:=Pr hc
    obtain⟨⟨b,e3⟩,c3,hc⟩:=Pr hc
    refine .inr ⟨go i hlt,Iv (i+1),fun σ2 H2 r=>⟨items.length - (i+1),by lia,rfl,hlt,r⟩,fun x H2 hy=>?_⟩
    obtain⟨F2,sH,sF2,sm2,fz,hx⟩:=yld i items[i] x H2 (Rk hlt) hy
    obtain⟨R2,X2⟩:=R'.step sH sF2 sm2 fz
    refine⟨F2,ei,items[i],e2,R2,hx,c2,fun σ3 X3 R3=>⟨F2,e2,b,e3,R3,c3,fun F4 H4 X4 R4=>?_⟩⟩
    have hlH2:H2 l=some (.lst vs):=sH _ _ hl'
    have no2:¬cj σ' ei H2 l:=fun z=>by
      rcases X2.ow l z with z | z
      · exact no z
      · rw [hl'] at z;cases z
    have no3:¬cj σ3 e2 H2 l:=fun z=>by
      rcases X3.own l z with z | z
      · exact no2 z
      · rw [hlH2] at z;cases z
    have fl2:F2 l=none:=fz l fl (by rw [hl'];simp)
    have hlH4:H4 l=some (.lst vs):=X4.tmp l _ hlH2 no3
    have fl4:F4 l=none:=X4.fr l vs fl2 hlH2 no3
    have no4:¬cj σ3 e3 H4 l:=fun z=>by
      rcases X4.ow l z with z | z
      · exact no3 z
      · rw [hlH2] at z;cases z
    have E4:eB W (jP cp nT σ) F1 H1 (tS cp nT e1) σ3 F4 H4 e3:=((X'.trans X2.s).trans X3).trans X4.s
    cases b with
    | false=>
      rw [if_neg (by simp)] at hc
      exact IX (.mk R4 E4 fl4 no4 hlH4 (da.mono (sF2.trans X4.sf)) hc)
    | true=>
      rw [if_pos rfl] at hc
      obtain⟨⟨r,e5⟩,c5,hc⟩:=Pr hc
      obtain⟨d,c6,hc⟩:=Pr hc
      split at hc
      case isFalse=>cases hc
      case isTrue hlen=>
      refine IY ⟨F4,e3,r,e5,R4,c5,fun F5 H5 v X5 R5 A5=>?_⟩
      have hlH5:H5 l=some (.lst vs):=X5.tmp l _ hlH4 no4
      have fl5:F5 l=none:=X5.fr l vs fl4 hlH4 no4
      have no5:¬cj σ3 e5 H5 l:=fun z=>by
        rcases X5.ow l z with z | z
        · exact no4 z
        · rw [hlH4] at z;cases z
      obtain⟨F6,R6,s6,d6,f6⟩:=eF.frozen R5 (rs:=[r]) (vs:=[v]) ⟨v,[],rfl,A5,rfl⟩ (rQ c6)
      have fl6:F6 l=none:=f6 l fl5 (by rw [hlH4];simp)
      have X6:=X5.frz s6 f6
      have ll:=da.len
      have sl:PY=16777216:=QC
      have dv:DA K F6 d v:=by
        simp only [aT] at d6
        obtain⟨v',r',e',hv,_⟩:=d6
        cases e';exact hv
      obtain⟨R7,o7⟩:=R6.putT (ws:=vs++[v]) fl6 no5
      exact⟨vs,hlH5,by lia,.mk R7 ((E4.trans X6.s).putT hl o7) fl6 (fun z=>no5 ((o7 l).mp z)) aM ((da.mono (sF2.trans (X4.sf.trans (X5.sf.trans s6)))).append (aT.one dv)) hc⟩
  · have hd:items.drop i=[]:=UB (by lia)
    rw [hd] at hc
    cases hc
    refine .inl ⟨stop i (by lia),?_⟩
    obtain⟨R9,X9,o9⟩:=vV R1 sub mH X'.sf X'.dom X'.fr X'.lst X'.tmp X'.fd R' (fun i k xs g1 g2=>X'.wr k fun z=>by
      obtain⟨s,g⟩:=fN g2
      have:=(Pu g).1
      have:=hW k z
      lia) fun i k xs g1 g2=>by
        obtain⟨s,g⟩:=fN g2
        unfold jt at hB
        have hb:=Qp.mp hB _ (Py g)
        simp only [g1,g2,TV,yh,Bool.not_true,Bool.false_or] at hb
        exact CP.mp hb
    exact q F' H' (.ref l) (X1.trans X9) R9 ⟨l,vs,rfl,X1.dom l hl,fl,hl',da,fun z=>R1.ownH l (o9 l z) hl⟩
end
section
variable{X:Cx}{K:PF}{a b:PH}{es:List PH}{fa fb:FE}{fs:FA}{pos p p2 p3:Pos}{lo hi:Option PH}
def wM:En→Rv→Option Rv:=fun _ x=>(bW x).map fun i=>.d (.int (-i))
theorem Jm:Ig K (rU fun i=>.int (-i)) wM:=by
  intro σ H0 F H e x z v Q R A hg q
  obtain⟨i,h5,h4⟩:=Pt hg
  cases h4
  exact⟨i,cF A h5,q F H _ (dY.refl _ _ _ _) R qt⟩
theorem yt(ha:PE X a (fE K fa)):PE X (.UnaryOp .USub a pos) (fE K (qV wM fa)):=JB HU Jm ha
theorem ce(hK:X.K=K)(ha:PE X a (fE K fa))(hb:PE X b (fE K fb)):PE X (.BinOp a .Add b pos) (fE K (aw bi fa fb)):=mW (hK ▸ yo) EC ha hb
theorem yu(ha:PE X a (fE K fa))(hb:PE X b (fE K fb)):PE X (.BinOp a .Sub b pos) (fE K (aw lL fa fb)):=mW G2 JV ha hb
theorem ql(hK:X.K=K)(ha:PE X a (fE K fa))(hb:PE X b (fE K fb)):PE X (.BinOp a .Mult b pos) (fE K (aw lm fa fb)):=mW (hK ▸ Dr) ym ha hb
theorem iV(ha:PE X a (fE K fa))(hb:PE X b (fE K fb)):PE X (.BinOp a .FloorDiv b pos) (fE K (aw dq fa fb)):=mW A6 FR ha hb
theorem bF(ha:PE X a (fE K fa))(hb:PE X b (fE K fb)):PE X (.BinOp a .Mod b pos) (fE K (aw bB fa fb)):=mW Dq Jl ha hb
theorem E1(ha:PE X a (fE K fa))(hb:PE X b (fE K fb)):PE X (.BinOp a .Pow b pos) (fE K (aw wN fa fb)):=mW G0 Jv ha hb
theorem cD(hK:X.K=K)(ha:PE X a (fE K fa))(hb:PE X b (fE K fb))(hs:l7 b):PE X (.Subscript a b pos) (fE K (aw dC fa fb)):=E3 (hK ▸ I0) I_ ha hb hs
theorem mT{fl fh:FO}(hK:X.K=K)(he:PE X a (fE K fa))(hl:PO X lo (fO K fl))(hh:PO X hi (fO K fh)):PE X (.Subscript a (.Slice lo hi none p2) pos) (fE K (uB fa fl fh)):=by subst hK;exact Bs he hl hh
structure oX (X:Cx) (K:PF) (op:CmpOp) (g:En→Rv→Rv→Option Rv):Prop where
  ex:∃r,iH X (QB op) r∧gT K r g
theorem wB:oX X K .Lt wK:=⟨_,Jr,Le⟩
theorem yU:oX X K .Gt Co:=⟨_,Jq,K5⟩
theorem yT:oX X K .GtE Cn:=⟨_,Jp,K4⟩
theorem j7{k:Nat}(hK:X.K=K)(hr:cg k X.A):oX X K .Eq (bH false):=⟨_,hK ▸ GT hr,EK⟩
theorem wC{k:Nat}(hK:X.K=K)(hr:cg k X.A):oX X K .NotEq (bH true):=⟨_,hK ▸ GZ hr,EK⟩
theorem tD{k:Nat}(hK:X.K=K)(hr:cg k X.A):oX X K .In (nD false):=⟨_,hK ▸ GU hr,IQ⟩
theorem x5{k:Nat}(hK:X.K=K)(hr:cg k X.A):oX X K .NotIn (nD true):=⟨_,hK ▸ zw hr,IQ⟩
theorem IE:oX X K .Is Ih:=⟨_,GV,K9⟩
theorem tF:oX X K .IsNot lK:=⟨_,zu,CQ⟩
theorem oJ{op:CmpOp}{g:En→Rv→Rv→Option Rv}(h:oX X K op g)(ha:PE X a (fE K fa))(hb:PE X b (fE K fb))(hm:Rl op b=false):PE X (.Compare a [op] [b] pos) (fE K (aw g fa fb)):=by
  obtain⟨r,h1,h2⟩:=h.ex;exact Ho h1 h2 ha hb hm
theorem aQ{op:CmpOp}{g:En→Rv→Rv→Option Rv}(h:oX X K op g)(ha:PE X a (fE K fa))(hb:PE X b (fE K fb))(hm:Rl op b=false):PT X (.Compare a [op] [b] pos) (fT K (aE (aw g fa fb))):=by
  obtain⟨r,h1,h2⟩:=h.ex;exact Ht h1 h2 ha hb hm
structure lC (X:Cx) (K:PF) (x:Str) (g:En→List Rv→Option Rv):Prop where
  ex:(∃id r,dX X (.builtin id) r∧dS K r g∧Rt x=some (.builtin id))∨∃T r,dX X (.type T) r∧dS K r g∧Rt x=some (.type T)
theorem aW{x:Str}{g:En→List Rv→Option Rv}(h:lC X K x g)(hg:Gl X x)(hm:X.mg x=none)(ha:PA X (a::es) (fA K fs))(hn:x≠"__name__")(hdb:(x==("__debug__":Str))=false)
    (he:PU (a::es) X.env=(false,PV a X.env)::PU es X.env)(hpl:(Qf pos (PU es X.env)).any (·.1)=false):PE X (.Call (.Name x p) (a::es) [] pos) (fE K (aA g fs)):=by
  rcases h.ex with ⟨id,r,h1,h2,h3⟩ | ⟨T,r,h1,h2,h3⟩
  · exact Br h1 h2 hg hm h3 ha hn hdb he hpl
  · exact zz h1 h2 hg hm h3 ha hn hdb he hpl
theorem b_len(hK:X.K=K):lC X K "len" (g1 dJ):=⟨.inl ⟨_,_,hK ▸ tG,Jc,PySem.boot_len⟩⟩
theorem b_abs:lC X K "abs" (g1 y9):=⟨.inl ⟨_,_,zZ,Ir,PyProof.Rows.boot_abs⟩⟩
theorem b_min(hc:X.calm=true):lC X K "min" (g2 Ai):=⟨.inl ⟨_,_,yX hc,Jk,PyProof.Rows.boot_min⟩⟩
theorem b_max(hc:X.calm=true):lC X K "max" (g2 zb):=⟨.inl ⟨_,_,yW hc,Jj,PyProof.Rows.boot_max⟩⟩
theorem b_int:lC X K "int" (g1 q_):=⟨.inr ⟨_,_,yV,IR,PyProof.Rows.boot_int⟩⟩
theorem b_tuple(hK:X.K=K):lC X K "tuple" (g1 eZ):=⟨.inr ⟨_,_,hK ▸ qZ,Em,PyProof.Rows.boot_tuple⟩⟩
theorem Fz(hK:X.K=K):lC X K "list" (g1 EM):=⟨.inr ⟨_,_,hK ▸ tH,GA,PyProof.Rows.boot_list⟩⟩
theorem b_sum{k:Nat}(hK:X.K=K)(hr:cg k X.A):lC X K "sum" (g1 (i7 rY)):=⟨.inl ⟨_,_,hK ▸ z4 hr,JX,PyProof.Rows.boot_sum⟩⟩
theorem b_all{k:Nat}(hK:X.K=K)(hr:cg k X.A):lC X K "all" (g1 (i7 uY)):=⟨.inl ⟨_,_,z0 hr hK,Iu,zY⟩⟩
theorem b_sorted(hK:X.K=K):lC X K "sorted" (g1 fF):=⟨.inl ⟨_,_,hK ▸ wG,Eb,PyProof.Rows.boot_sorted⟩⟩
abbrev gS:FT:=fun e=>some (true,e)
theorem Cg.mono{ifs:List PH}{t t':TT}(h:Cg X ifs t)(m:∀σ H Q,t' σ H Q→t σ H Q):Cg X ifs t':=fun pins s σ H Q I q=>h pins s σ H Q I (m σ H Q q)
theorem mY:Cg X [] (fT K gS):=DR.mono fun σ H Q h=>by
  obtain⟨F,e,b,e',R,hf,q⟩:=h
  cases hf
  exact q F H (dY.refl _ _ _ _) R
theorem jL{c:PH}{ft:FT}(h:PT X c (fT K ft)):Cg X [c] (fT K ft):=DS h
variable{o:PH}{fo:FE}{apos cpos:Pos}
theorem ku(hK:X.K=K)(ho:PE X o (fE K fo))(ha:PA X (a::es) (fA K fs))(hbase:Rw o "append" X.env (PV o X.env)=PV o X.env)
    (hfew:((Qf cpos (PU (a::es) X.env)).all (fun x=> !x.1)&&(Rz cpos (RB [] X.env)).all (fun x=>x.1.isSome)
      &&decide ((a::es).length+([]:List QQ).length+(if ([]:List QQ).isEmpty then 0 else 1) < 30))=true)
    (hline:(apos.endLine==cpos.line)=true)(hs:PU (a::es) X.env=(false,PV a X.env)::PU es X.env)(hplain:(Qf cpos (PU es X.env)).any (·.1)=false):
    PE X (.Call (.Attribute o "append" apos) (a::es) [] cpos) (fE K (eO cu fo fs)):=by
  subst hK;exact E2 PySem.F.slot_list_append PySem.F.type_list_append sj zR ho ha hbase hfew hline hs hplain
theorem DT(hK:X.K=K)(ho:PE X o (fE K fo))(ha:PA X (a::es) (fA K fs))(hbase:Rw o "pop" X.env (PV o X.env)=PV o X.env)
    (hfew:((Qf cpos (PU (a::es) X.env)).all (fun x=> !x.1)&&(Rz cpos (RB [] X.env)).all (fun x=>x.1.isSome)
      &&decide ((a::es).length+([]:List QQ).length+(if ([]:List QQ).isEmpty then 0 else 1) < 30))=true)
    (hline:(apos.endLine==cpos.line)=true)(hs:PU (a::es) X.env=(false,PV a X.env)::PU es X.env)(hplain:(Qf cpos (PU es X.env)).any (·.1)=false):
    PE X (.Call (.Attribute o "pop" apos) (a::es) [] cpos) (fE K (eO fK fo fs)):=by
  subst hK;exact E2 PySem.F.slot_list_pop PySem.F.type_list_pop AF DO ho ha hbase hfew hline hs hplain
end
theorem xC{K:PF}{H:Hp}{a:xM}{ns:List Int}{m:FM}{as':List Sv}{Q:VK}{E:XK}(hS:iJ K H a (ns.map V.int))(hm:m [.d (.list (ns.map .int))]=some (.d (.bool true),as'))(q:∀H',Q (.bl true) H'):eA K 1 m [.ref a] H Q E:=by
  refine⟨rfl,H,[.d (.list (ns.map .int))],_,as',?_,?_,hm,trivial,fun F' H' v X' R' A'=>?_⟩
  · refine⟨ax.refl _,rfl,fun i x h=>?_,fun i xs h=>?_,fun i xss h=>?_,fun i j l f1 _=>?_⟩
    · match i,h with
      | 0,h=>
        simp at h;subst h
        exact⟨.ref a,rfl,gF.mpr ⟨a,_,rfl,hS,aT.ints.mpr rfl⟩⟩
      | i+1,h=>simp at h
    · match i,h with
      | 0,h=>simp at h
      | i+1,h=>simp at h
    · match i,h with
      | 0,h=>simp at h
      | i+1,h=>simp at h
    · rcases f1 with ⟨_,h,_⟩ | ⟨_,_,_,h,_⟩
      · match i,h with
        | 0,h=>simp at h
        | i+1,h=>simp at h
      · match i,h with
        | 0,h=>simp at h
        | i+1,h=>simp at h
  · intro i xss h
    match i,h with
    | 0,h=>simp at h
    | i+1,h=>simp at h
  · rw [ef.mp (show DA K F' (.bool true) v from A')];exact q H'
section
variable{K:PF}{σ:L2.St}{H0 F H F' H':Hp}{e e':En}
end
section
variable{X:Cx}{K:PF}{a b:PH}{es:List PH}{fa fb:FE}{fs:FA}{pos p p2 p3 pos':Pos}{x:Str}{i:Nat}
def nC(k:Int):En→Option Int:=fun _=>some k
end
theorem nH{C:Int→Int→Bool}{f:Int→Int→PD}{e:En}{i j:Int}(h:C i j=true):gI C f e (.d (.int i)) (.d (.int j))=some (.d (f i j)):=by simp [gI,bW,h]
theorem eT{e:En}{i j:Int}:bi e (.d (.int i)) (.d (.int j))=some (.d (.int (i+j))):=rfl
theorem cP{e:En}{i j:Int}:lL e (.d (.int i)) (.d (.int j))=some (.d (.int (i - j))):=rfl
theorem pR{e:En}{i j:Int}(h:nQ i j=true):lm e (.d (.int i)) (.d (.int j))=some (.d (.int (i*j))):=by
  unfold lm Cp u9;rw [nH h];rfl
theorem AH{i j:Int}(h1: -(2 ^ 64) < i)(h2:i < 2 ^ 64):nQ i j=true:=by
  have:jQ i=true:=by unfold jQ;rw [decide_eq_true h1,decide_eq_true h2];rfl
  unfold nQ;rw [this];simp
theorem ud{i j:Int}(h1: -(2 ^ 64) < j)(h2:j < 2 ^ 64):nQ i j=true:=by
  have:jQ j=true:=by unfold jQ;rw [decide_eq_true h1,decide_eq_true h2];rfl
  unfold nQ;rw [this];simp
theorem a9{e:En}{i j:Int}(h:0 < j):bB e (.d (.int i)) (.d (.int j))=some (.d (.int (i % j))):=by
  unfold bB;rw [nH (by simp;lia)]
  rw [Int.fmod_eq_emod_of_nonneg i (by lia)]
theorem eI{e:En}{i j:Int}(h:0 < j)(h2:Bt 8000 j):dq e (.d (.int i)) (.d (.int j))=some (.d (.int (i / j))):=by
  unfold dq;rw [nH (by simp [l_.mpr h2];lia)]
  rw [Int.fdiv_eq_ediv_of_nonneg i (by lia)]
theorem eU{e:En}{i j:Int}{neg:Bool}:bH neg e (.d (.int i)) (.d (.int j))=some (.d (.bool (if neg then !(i==j) else i==j))):=by
  unfold bH;simp [ix,QF,Qr,QE,QY]
theorem hE{e:En}{i j:Int}:wK e (.d (.int i)) (.d (.int j))=some (.d (.bool (decide (i < j)))):=rfl
theorem g9{e:En}{i j:Int}:Ml e (.d (.int i)) (.d (.int j))=some (.d (.bool (decide (i≤j)))):=rfl
theorem gY{e:En}{i j:Int}:Co e (.d (.int i)) (.d (.int j))=some (.d (.bool (decide (j < i)))):=rfl
theorem gX{e:En}{i j:Int}:Cn e (.d (.int i)) (.d (.int j))=some (.d (.bool (decide (j≤i)))):=rfl
theorem eW{e:En}{i j:Int}:g2 Ai e [.d (.int i),.d (.int j)]=some (.d (.int (min i j))):=by
  show some (Rv.d (.int (if j < i then j else i)))=_
  congr 3
  split<;>lia
theorem eV{e:En}{i j:Int}:g2 zb e [.d (.int i),.d (.int j)]=some (.d (.int (max i j))):=by
  show some (Rv.d (.int (if j > i then j else i)))=_
  congr 3
  split<;>lia
theorem eX{e:En}{i:Int}:wM e (.d (.int i))=some (.d (.int (-i))):=rfl
theorem dI{e:En}{b:Bool}:g1 q_ e [.d (.bool b)]=some (.d (.int (if b then 1 else 0))):=rfl
theorem eS{e:En}{i:Int}:g1 y9 e [.d (.int i)]=some (.d (.int i.natAbs)):=by
  show some (Rv.d (.int (if i < 0 then -i else i)))=_
  congr 3
  split<;>lia
theorem pJ{j:Int}(h1:0 < j)(h2:j < 2 ^ 64):Bt 8000 j:=Bt.mono (m:=64) (by unfold Bt;lia) (by decide)
theorem jr{α:Type}{xs:List α}{i:Int}(h0:0≤i)(h:i < xs.length):atI xs i=xs[i.toNat]?:=by
  unfold atI zi
  rw [if_pos h0,if_pos h];rfl
theorem Ad{e:En}{i:Nat}{xs:List PD}{neg:Bool}(h:e[i]?=some (some (.l xs)))(hs:QF (.list xs)=true):bH neg e (.s i) (.l [])=some (.d (.bool (if neg then !xs.isEmpty else xs.isEmpty))):=by
  unfold bH
  simp only [ix,h,Qb,hs]
  have h0:QF (.list [])=true:=by simp [QF,Qr,QW,QE,RN]
  rw [h0]
  cases xs<;>simp [QY,PyData.eqvAll]
theorem oS(ns:List Int):QF (.list (ns.map .int))=true∧QF (.tuple (ns.map .int))=true:=by
  have h1:QW (ns.map PyData.int)=true:=by
    induction ns with
    | nil=>rfl
    | cons n r ih=>simp [QW,Qr,ih]
  have h2:RN (ns.map PyData.int)=0:=by
    clear h1
    induction ns with
    | nil=>rfl
    | cons n r ih=>simp [RN,QE,ih]
  constructor<;>simp [QF,Qr,QE,h1,h2]
theorem ke{own:jZ}{g:FG}{f:FS}(P:Nat→En→Prop):∀(items:List PD) (k:Nat) (e:En),(∀i x e,items[i]?=some x→P (k+i) e→∃e1 e2,g x e=some e1∧f e1=some (.nx e2)∧keeps own e2∧P (k+i+1) e2)→P k e→∃e',lH own g f items e=some (.nx e')∧P (k+items.length) e'
  | [],k,e,_,h=>⟨e,rfl,h⟩
  | x::r,k,e,hs,h=>by
    obtain⟨e1,e2,h1,h2,h3,h4⟩:=hs 0 x e rfl h
    obtain⟨e',h5,h6⟩:=ke P r (k+1) e2 (fun i y e hy hp=>by
      have:=hs (i+1) y e (by simpa using hy) (by rw [show k+(i+1)=k+1+i by lia];exact hp)
      rw [show k+(i+1)+1=k+1+i+1 by lia] at this
      exact this) h4
    refine⟨e',?_,by rw [Ro,show k+(r.length+1)=k+1+r.length by lia];exact h6⟩
    unfold lH
    simp only [h1,h2,Qb,if_pos h3]
    exact h5
theorem dN{e:En}:keeps [] e:=fun _ h=>by cases h
theorem jN{W:List Nat}{fi:FI}{g:FG}{f:FS}{e e1:En}{items:List PD}(h:fi e=some (items,[],e1)):jM W fi g f e=lH [] g f items e1:=by
  unfold jM;rw [h];rfl
theorem dw{lo:Int}{n i:Nat}{x:PD}(h:(bg lo n)[i]?=some x):x=.int (lo+i)∧i < n:=by
  unfold bg at h
  rw [Qu] at h
  obtain⟨k,h1,rfl⟩:=Pt h
  obtain⟨h2,h3⟩:=Pu h1
  simp at h2 h3
  subst h3
  exact⟨rfl,h2⟩
theorem eE{lo:Int}{n:Nat}:(bg lo n).length=n:=by simp [bg]
theorem dr{fs:FA}{e e1:En}{n:Int}(h:fs e=some ([.d (.int n)],e1))(h1: -1000000≤n)(h2:n≤1000000):ek fs e=some (bg 0 n.toNat,[],e1):=by
  unfold ek;rw [h]
  have:BF n=true:=by unfold BF;rw [decide_eq_true h1,decide_eq_true h2];rfl
  simp [bW,this]
theorem qS{ft:FT}{f:FS}(P:En→Prop)(μ:En→Nat)(hs:∀e,P e→(∃e1,ft e=some (false,e1)∧True)∨∃e1 e2,ft e=some (true,e1)∧f e1=some (.nx e2)∧P e2∧μ e2 < μ e):
    ∀(n:Nat) (e:En),P e→μ e < n→∃e0 e',jR ft f n e=some (.nx e')∧P e0∧ft e0=some (false,e'):=by
  intro n
  induction n with
  | zero=>intro e _ h;lia
  | succ n ih=>
    intro e hp hm
    rcases hs e hp with ⟨e1,h1,_⟩ | ⟨e1,e2,h1,h2,h3,h4⟩
    · exact⟨e,e1,by unfold jR;rw [h1];rfl,hp,h1⟩
    · obtain⟨e0,e',g1,g2⟩:=ih e2 h3 (by lia)
      exact⟨e0,e',by unfold jR;rw [h1];simp only [Qb,if_true,h2];exact g1,g2⟩
theorem eH{cs:En}{ft:FT}{fe:FE}{b:PD→Bool}{y:PD→PD}:∀(items:List PD) (t:Option Sv) (acc:List PD),(∀x∈items,ft (cs++[some (.d x)])=some (b x,cs++[some (.d x)]))→(∀x∈items,b x=true→fe (cs++[some (.d x)])=some (.d (y x),cs++[some (.d x)]))→
    acc.length+items.length≤1000000→∃t',gc (aq cs.length) ft fe items (cs++[t]) acc=some (acc++(items.filter b).map y,cs++[t'])
  | [],t,acc,_,_,_=>⟨t,by simp [gc]⟩
  | x::r,t,acc,h1,h2,hl=>by
    have hg:aq cs.length x (cs++[t])=some (cs++[some (.d x)]):=by simp [aq]
    have h1x:=h1 x (by simp)
    unfold gc
    rw [hg]
    simp only [Qb,h1x]
    cases hb:b x with
    | true=>
      simp only [if_true,h2 x (by simp) hb,Qb,iw]
      rw [if_pos (by simp at hl;lia)]
      obtain⟨t',ih⟩:=eH (b:=b) (y:=y) r (some (.d x)) (acc++[y x]) (fun z hz=>h1 z (by simp [hz])) (fun z hz=>h2 z (by simp [hz])) (by simp at hl ⊢;lia)
      exact⟨t',by rw [ih];simp [hb]⟩
    | false=>
      simp only [SW,if_false]
      obtain⟨t',ih⟩:=eH (b:=b) (y:=y) r (some (.d x)) acc (fun z hz=>h1 z (by simp [hz])) (fun z hz=>h2 z (by simp [hz])) (by simp at hl;lia)
      exact⟨t',by rw [ih];simp [hb]⟩
theorem qQ{cp:List (Nat × Str)}{nT:Nat}{fi:FI}{g:FG}{ft:FT}{fe:FE}{e e1 eo:En}{items out:List PD}(h1:fi e=some (items,[],e1))(h3:gc g ft fe items (tS cp nT e1) []=some (out,eo))(h4:(cp.all fun p=> !yh e1[p.1]?)=true):cf cp nT fi g ft fe e=some (.l out,e1):=by
  unfold cf
  rw [h1]
  simp only [Qb,List.all_nil,if_true,h3]
  have hb:jt cp eo e1=true:=by
    unfold jt
    rw [Qp] at h4 ⊢
    intro p hp
    rw [h4 p hp];rfl
  rw [if_pos hb]
  congr 2
  refine Si fun i=>?_
  rw [b_]
  match hi:e1[i]? with
  | none=>rfl
  | some none=>rfl
  | some (some (.d x))=>rfl
  | some (some (.n x))=>rfl
  | some (some (.l x))=>
    cases hp:nU cp i with
    | none=>simp [hp]
    | some k=>
      obtain⟨s,hs⟩:=fN hp
      have:=Qp.mp h4 _ (Py hs)
      simp [hi,yh] at this
theorem nK{fa:FE}{e e1:En}{xs:List PD}(h:fa e=some (.d (.tuple xs),e1)):ki fa e=some (xs,[],e1):=by
  unfold ki;rw [h];rfl
theorem ny{cp:List (Nat × Str)}{nT:Nat}{fi:FI}{g:FG}{ft:FT}{fe:FE}{e e1 cs:En}{t t':En}{items out:List PD}(h1:fi e=some (items,[],e1))(hc:tS cp nT e1=cs++t)(hl:cs.length=cp.length)(h3:gc g ft fe items (tS cp nT e1) []=some (out,cs++t')):cf cp nT fi g ft fe e=some (.l out,e1):=by
  have key:∀i x,e1[i]?=some (some (.l x))→∀k,nU cp i=some k→(cs++t')[k]?=some (some (.l x)):=by
    intro i x hi k hk
    obtain⟨s,hs⟩:=fN hk
    have hk2:k < cp.length:=(Pu hs).1
    have:(tS cp nT e1)[k]?=some (some (.l x)):=by
      unfold tS
      rw [RC (by simpa using hk2),Qu,hs]
      simp [hi,Jd]
    rw [hc,RC (by lia)] at this
    rw [RC (by lia)]
    exact this
  unfold cf
  rw [h1]
  simp only [Qb,List.all_nil,if_true,h3]
  have hb:jt cp (cs++t') e1=true:=by
    unfold jt
    rw [Qp]
    intro p hp
    match hi:e1[p.1]? with
    | none=>simp [yh]
    | some none=>simp [yh]
    | some (some (.d x))=>simp [yh]
    | some (some (.n x))=>simp [yh]
    | some (some (.l x))=>
      cases hq:nU cp p.1 with
      | none=>
        unfold nU at hq
        rw [Ua] at hq
        have:=hq p hp
        simp at this
      | some k=>simp [key p.1 x hi k hq,yh]
  rw [if_pos hb]
  congr 2
  refine Si fun i=>?_
  rw [b_]
  match hi:e1[i]? with
  | none=>rfl
  | some none=>rfl
  | some (some (.d x))=>rfl
  | some (some (.n x))=>rfl
  | some (some (.l x))=>
    cases hp:nU cp i with
    | none=>simp [hp]
    | some k=>simp [hp,key i x hi k hp]
theorem pH{α:Type}{xs:List α}{i:Int}(h0:0≤i)(h1:i < xs.length):∃x∈xs,atI xs i=some x:=by
  rw [jr h0 h1]
  exact⟨xs[i.toNat]'(by lia),Th _,Rk _⟩
theorem mB{e:En}{xs:List PD}{i:Int}:dC e (.l xs) (.d (.int i))=(atI xs i).map .d:=rfl
theorem eJ{e:En}{xs:List PD}{i:Int}:dC e (.d (.tuple xs)) (.d (.int i))=(atI xs i).map .d:=rfl
theorem jD{e:En}{xs:List PD}{i:Int}:dC e (.d (.list xs)) (.d (.int i))=(atI xs i).map .d:=rfl
theorem mD{e:En}{j:Nat}{xs:List PD}{i:Int}(h:e[j]?=some (some (.l xs))):dC e (.s j) (.d (.int i))=(atI xs i).map .d:=by
  simp [dC,cU,h,bW]
theorem gG{e:En}{xs:List PD}:g1 dJ e [.d (.tuple xs)]=some (.d (.int xs.length)):=rfl
theorem g_{e:En}{xs:List PD}:g1 dJ e [.d (.list xs)]=some (.d (.int xs.length)):=rfl
theorem jE{e:En}{xs:List PD}:g1 dJ e [.l xs]=some (.d (.int xs.length)):=rfl
theorem iU{e:En}{j:Nat}{xs:List PD}(h:e[j]?=some (some (.l xs))):g1 dJ e [.s j]=some (.d (.int xs.length)):=by
  simp [g1,dJ,cU,h]
theorem e7{e:En}{j:Nat}{xs:List PD}(h:e[j]?=some (some (.l xs))):g1 eZ e [.s j]=some (.d (.tuple xs)):=by
  simp [g1,eZ,cU,h]
theorem e6{e:En}{xs:List PD}:g1 eZ e [.l xs]=some (.d (.tuple xs)):=rfl
theorem dM{e:En}{xs:List PD}:g1 eZ e [.d (.list xs)]=some (.d (.tuple xs)):=rfl
theorem e8{e:En}{xs:List PD}:g1 eZ e [.d (.tuple xs)]=some (.d (.tuple xs)):=rfl
theorem mF{e:En}{xs:List PD}{lo hi:Option Int}:CL e (.d (.tuple xs)) lo hi=some (.d (.tuple (cutD xs lo hi))):=rfl
theorem kf{e:En}{xs ys:List PD}(h:xs.length+ys.length≤1000000):bi e (.d (.tuple xs)) (.d (.tuple ys))=some (.d (.tuple (xs++ys))):=by
  simp [bi,Cp,rT,gI,bW,lr,cU,h]
theorem FU{e:En}{i j:Int}(h:j≠0):bB e (.d (.int i)) (.d (.int j))=some (.d (.int (i.fmod j))):=by
  unfold bB;rw [nH (by simpa using h)]
theorem CK{e:En}{i j:Int}(h:j≠0)(h2:Bt 8000 j):dq e (.d (.int i)) (.d (.int j))=some (.d (.int (i.fdiv j))):=by
  unfold dq;rw [nH (by simp [l_.mpr h2,h])]
theorem mE{e:En}{i j:Int}(h:Bf i j=true):wN e (.d (.int i)) (.d (.int j))=some (.d (.int (i ^ j.toNat))):=by
  unfold wN;rw [nH h]
theorem mR:Bf 10 18=true:=by decide
theorem li{f g:FS}{e e1:En}(h:f e=some (.nx e1)):aJ f g e=g e1:=by unfold aJ;rw [h];rfl
theorem JQ{ft:FT}{f g:FS}{e e1:En}(h:ft e=some (true,e1)):je ft f g e=f e1:=by unfold je;rw [h];rfl
theorem JP{ft:FT}{f g:FS}{e e1:En}(h:ft e=some (false,e1)):je ft f g e=g e1:=by unfold je;rw [h];rfl
def ET(i:Nat)(e:En):Nat:=match e[i]? with
  | some (some (.l xs))=>xs.length
  | _=>0
def AJ(i:Nat)(e:En):Nat:=match e[i]? with
  | some (some (.d (.int k)))=>k.natAbs
  | _=>0
theorem yk{n m:Nat}(h:n < 2 ^ m)(hm:m≤4200):n < 2 ^ 4200:=QG h (Tg (by decide) hm)
theorem jq{α:Type}{a:α}{r:List α}:atI (a::r) 0=some a:=by
  rw [jr (by decide) (by simp)];rfl
theorem cY{α:Type}{a b:α}{r:List α}:atI (a::b::r) 1=some b:=by
  rw [jr (by decide) (by simp;lia)];rfl
theorem iR{α:Type}{a b c:α}{r:List α}:atI (a::b::c::r) 2=some c:=by
  rw [jr (by decide) (by simp;lia)];rfl
theorem iS{α:Type}{a b c d:α}{r:List α}:atI (a::b::c::d::r) 3=some d:=by
  rw [jr (by decide) (by simp;lia)];rfl
theorem fZ{W:aR}{k:Int}(h:h8 W k):atI (W.ties.map ci) k=some (ci (W.tie k)):=by
  rw [jr h.1 (by rw [Qh];exact h.2),Qu,h.get];rfl
theorem uL{ns:List Int}{k:Int}(h0:0≤k)(h1:k < (ns.length:Int)):atI (ns.map PyData.int) k=some (.int (ns.getD k.toNat 0)):=by
  rw [jr h0 (by rw [Qh];exact h1),Qu]
  have:k.toNat < ns.length:=by lia
  simp [this]
theorem me{a b c d:PD}:cutD [a,b,c,d] none (some 2)=[a,b]:=rfl
theorem dG{a b c d:PD}:cutD [a,b,c,d] (some 2) none=[c,d]:=rfl
theorem dF{a b c:PD}:cutD [a,b,c] (some 1) none=[b,c]:=rfl
theorem uP(ns:List Int):QW (ns.map PyData.int)=true:=by
  induction ns with
  | nil=>rfl
  | cons n r ih=>simp [QW,Qr,ih]
theorem uK{x:Int}:∀(ns:List Int),((ns.map PyData.int).any fun y=>QY y (.int x))=ns.contains x
  | []=>rfl
  | n::r=>by
    rw [Qk,Tj,uK r,List.contains_cons]
    show(n==x || _)=_
    rw [show(n==x)=(x==n) by rw [TX];simp;exact eq_comm]
theorem ed{e:En}{x:Int}{ns:List Int}{neg:Bool}:nD neg e (.d (.int x)) (.d (.tuple (ns.map .int)))=some (.d (.bool (if neg then !ns.contains x else ns.contains x))):=by
  unfold nD
  simp only [ix,cU,Qb,uP,uK]
  simp [Qr,QE]
theorem gZ{e:En}{x a b:Int}{neg:Bool}:nD neg e (.d (.int x)) (.d (.tuple [.int a,.int b]))=some (.d (.bool (if neg then !(a==x || b==x) else(a==x || b==x)))):=by
  have h:=ed (e:=e) (x:=x) (ns:=[a,b]) (neg:=neg)
  simp only [Qk,Qv] at h
  rw [h]
  have:[a,b].contains x=(a==x || b==x):=by
    simp only [List.contains_cons,List.contains_nil,TH]
    rw [show(x==a)=(a==x) by rw [TX];simp;exact eq_comm,show(x==b)=(b==x) by rw [TX];simp;exact eq_comm]
  rw [this]
theorem jF{e:En}{ns:List Int}(h:ns.length < 64):g1 fF e [.d (.tuple (ns.map .int))]=some (.l ((jn ns).map .int)):=by
  simp [g1,fF,cU,nL,h]
def rj(p:Int→Bool):PD→Bool
  | .int k=>p k
  | _=>false
theorem nY{W:aR}{asked taken:List Int}:((bg 0 W.ties.length).filter (rj fun k=>W.may asked taken k))=(W.can asked taken).map .int:=by
  unfold bg aR.can aR.rng
  rw [Ub,Ub,Rq]
  have:(QM W.ties.length).filter ((rj fun k=>W.may asked taken k) ∘ fun(i:Nat)=>PyData.int (0+(i:Int)))=(QM W.ties.length).filter ((fun k=>W.may asked taken k) ∘ Int.ofNat):=by
    congr 1
    funext i
    simp [rj]
  rw [this]
  refine List.map_congr_left fun i _=>?_
  simp
theorem bS(W:aR):ao W=.tuple [.int W.things,.tuple (W.ties.map ci),.tuple (W.pat.map .int),.int W.asks]:=rfl
def Sh(n:Nat)(d:PD):Prop:=d.canLay0=true∧d.depth≤n
theorem Sh.ok{n:Nat}{d:PD}(h:Sh n d)(l:n≤64):QF d=true:=by
  unfold QF;rw [h.1,decide_eq_true (Qq h.2 l)];rfl
theorem Sh.int{k:Int}:Sh 2 (.int k):=⟨by simp [Qr],by simp [QE]⟩
theorem Sh.bool{b:Bool}:Sh 2 (.bool b):=⟨by simp [Qr],by simp [QE]⟩
theorem Sh.all{n:Nat}:∀{ds:List PD},(∀d∈ds,Sh n d)→QW ds=true∧RN ds≤n
  | [],_=>⟨rfl,by simp [RN]⟩
  | d::r,h=>by
    obtain⟨a1,a2⟩:=h d (by simp)
    obtain⟨b1,b2⟩:=Sh.all (ds:=r) fun x hx=>h x (by simp [hx])
    exact⟨by simp [QW,a1,b1],by simp only [RN];lia⟩
theorem Sh.tup{n:Nat}{ds:List PD}(h:∀d∈ds,Sh n d):Sh (n+2) (.tuple ds):=by
  obtain⟨b1,b2⟩:=Sh.all h
  exact⟨by simp [Qr,b1],by simp only [QE];lia⟩
theorem Sh.list{n:Nat}{ds:List PD}(h:∀d∈ds,Sh n d):Sh (n+2) (.list ds):=by
  obtain⟨b1,b2⟩:=Sh.all h
  exact⟨by simp [Qr,b1],by simp only [QE];lia⟩
theorem vw:∀(n:Nat) (l:List Int),l.Nodup→(∀k∈l,0≤k∧k < (n:Int))→l.length≤n
  | 0,l,_,h=>by
    cases l with
    | nil=>simp
    | cons a r=>have:=h a (by simp);lia
  | n+1,l,hd,h=>by
    have ih:=vw n (l.erase (n:Int)) (hd.erase _) fun k hk=>by
      obtain⟨h1,h2⟩:=hd.mem_erase_iff.mp hk
      have:=h k h2
      lia
    by_cases c:(n:Int)∈l
    · rw [List.length_erase_of_mem c] at ih;lia
    · rw [List.erase_of_not_mem c] at ih;lia
abbrev Std:=List Int × List Int
structure iQ (W:aR) (s:Std):Prop where
  inw:∀k∈s.1,h8 W k
  nd:s.1.Nodup
  tk:s.2.length≤2*s.1.length
  th:∀t∈s.2,0≤t∧t < W.things
def nxt(W:aR)(s:Std)(k:Int)(b:Bool):Std:=(aR.askd s.1 k,W.took s.2 k b)
theorem iQ.len{W:aR}{s:Std}(h:iQ W s):s.1.length≤W.ties.length:=vw _ _ h.nd fun k hk=>h.inw k hk
theorem iQ.first(W:aR):iQ W ([],[]):=⟨fun k h=>(by cases h),List.nodup_nil,Qc _,fun k h=>(by cases h)⟩
theorem pG{a:List Int}{k:Int}:(aR.askd a k).length=a.length+1:=by unfold aR.askd;rw [sG];simp
theorem iQ.nxt{W:aR}{s:Std}{k:Int}(b:Bool)(ok:W.Ok)(h:iQ W s)(hk:h8 W k)(hn:k∉s.1):iQ W (nxt W s k b):=by
  refine⟨fun j hj=>?_,?_,?_,?_⟩
  · have:=sI.mp hj
    rcases Pv this with z | z
    · exact h.inw j z
    · simp at z;rw [z];exact hk
  · refine(lZ _).nodup_iff.mpr ?_
    rw [List.nodup_append]
    refine⟨h.nd,by simp,fun a ha b hb=>?_⟩
    simp at hb
    rintro rfl
    exact hn (hb ▸ ha)
  · have:=h.tk
    show(W.took s.2 k b).length≤2*(aR.askd s.1 k).length
    rw [pG]
    unfold aR.took
    split
    · rw [sG];simp;lia
    · lia
  · intro t ht
    have o:=hk.ok ok
    have:=o.o0;have:=o.o1;have:=o.o2
    change t∈W.took s.2 k b at ht
    unfold aR.took at ht
    split at ht
    · rcases Pv (sI.mp ht) with z | z
      · exact h.th t z
      · simp at z
        rcases z with rfl | rfl<;>lia
    · exact h.th t ht
structure Nd where
  tie:Int
  yes:Int
  no:Int
def Fu(W:aR)(n:Nat)(S:Nat→Std)(i:Nat)(k:Int)(b:Bool)(l:Int):Prop:=l= -1∨(0≤l∧l < (n:Int)∧S l.toNat=nxt W (S i) k b)
structure KC (W:aR) (n:Nat) (S:Nat→Std) (i:Nat) (x:Nd):Prop where
  tie:h8 W x.tie
  st:iQ W (S i)
  may:W.may (S i).1 (S i).2 x.tie=true
  yes:Fu W n S i x.tie true x.yes
  no:Fu W n S i x.tie false x.no
def KN(W:aR)(T:List Nd)(S:Nat→Std):Prop:=∀(i:Nat) (x:Nd),T[i]?=some x→KC W T.length S i x
structure Wt where
  st:Std
  par:Int
  side:Int
structure L4 (W:aR) (T:List Nd) (S:Nat→Std) (ws:List Wt):Prop where
  tr:KN W T S
  wt:∀w∈ws,iQ W w.st∧(w.par= -1∨∃(p:Nat) (x:Nd),w.par=(p:Int)∧T[p]?=some x∧((w.side=0∧w.st=L2.nxt W (S p) x.tie true)∨(w.side=1∧w.st=L2.nxt W (S p) x.tie false)))
  side:∀w∈ws,w.side=0∨w.side=1
def nm(nums:List Int)(l:Int):Int:=(atI nums l).getD (-1)
structure LJ (order:List Int) (n:Nat) (nums:List Int):Prop where
  len:nums.length=n+1
  top:nums[n]?=some (-1)
  at':∀(j:Nat) (v:Int),j < n→nums[j]?=some v→v= -1∨∃p:Nat,v=(p:Int)∧order[p]?=some (j:Int)
def AK(T:List Nd)(w:Int):Nd:=T.getD w.toNat ⟨0,0,0⟩
structure Md (S:Nat→Std) (n:Nat) (ss:List Std):Prop where
  len:ss.length=n
  at':∀(j:Nat) (s:Std),ss[j]?=some s→s.1.length≤(S j).1.length∧s.2.length≤2*s.1.length∧(∀k∈s.1,0≤k∧k < 16)∧∀t∈s.2,0≤t∧t < 12
theorem au(s:String):Qe (Pz s)=true:=by
  rw [Str.ofString_eq_toList]
  unfold Qe
  simp only [Qj,Qh]
  rw [show(SA Char.toNat s.toList).toArray.all (fun a=>decide (a < 1114112)) 0 s.toList.length=(SA Char.toNat s.toList).all (fun a=>decide (a < 1114112)) by simp]
  rw [List.all_map,Qp]
  intro c _
  show decide (c.toNat < 1114112)=true
  rw [decide_eq_true_eq]
  have:=c.valid
  unfold UInt32.isValidChar Nat.isValidChar at this
  show c.val.toNat < _
  lia
theorem io{a b:Str}(h1:Qe a=true)(h2:Qe b=true):Qe (a++b)=true:=by
  unfold Qe at*
  rw [show(a++b).cps=a.cps++b.cps from rfl]
  simp only [Array.all_append,h1,h2,Bool.and_self]
theorem qM{sep:Str}(h:Qe sep=true):∀(ts:List Str),(∀t∈ts,Qe t=true)→Qe (Qx sep ts)=true
  | [],_=>by show Qe RJ=true;simp [Qe,RJ]
  | [x],hx=>hx x (by simp)
  | x::y::r,hx=>io (io (hx x (by simp)) h) (qM h (y::r) fun t ht=>hx t (by simp at ht ⊢;exact .inr ht))
structure Sz (n dep:Nat) (d:PD):Prop where
  fl:EL d=true
  sh:d.showable=true
  dp:d.depth≤dep
  ln:d.shown.length≤n
  so:Qe d.shown=true
theorem ej{e:En}{s:Str}(h:Qe s=true):bH false e (.d (.str s)) (.d (.str s))=some (.d (.bool true)):=by
  simp [bH,ix,QF,Qr,QE,QY,h]
def dR(p:Int × Bool):PD:=.tuple [.int p.1,.bool p.2]
def rn(T:List Nd)(ans:List Bool):Nat→Int→List (Int × Bool)
  | 0,_=>[]
  | f+1,at'=>if at' < 0 then [] else((AK T at').tie,ans.getD (AK T at').tie.toNat false)::rn T ans f (if ans.getD (AK T at').tie.toNat false=true then(AK T at').yes else(AK T at').no)
def rt(T:List Nd):Int:=if T.length=0 then -1 else 0
structure LN (W:aR) (T:List Nd) (S:Nat→Std) (ans:List Bool) (r:List (Int × Bool)) (a:Int):Prop where
  at':a= -1∨(0≤a∧a < (T.length:Int)∧r.length≤(S a.toNat).1.length)
  eq:r++rn T ans (17 - r.length) a=rn T ans 17 (rt T)
  len:r.length≤16
  inw:∀p∈r,h8 W p.1
abbrev Fr:=Int × Int
def tm(a b:Fr):Fr:=gJ (a.1*b.1) (a.2*b.2)
def pl(a b:Fr):Fr:=gJ (a.1*b.2+b.1*a.2) (a.2*b.2)
structure lj (M:Int) (f:Fr):Prop where
  pos:0 < f.2
  lo:0≤f.1
  hi:f.1≤f.2
  dv:f.2 ∣ M
structure Ic (M i:Int) (f:Fr):Prop where
  pos:0 < f.2
  lo:0≤f.1
  hi:f.1≤i*f.2
  dv:f.2 ∣ M
def bp(W:aR):List Int→Int
  | []=>1
  | k::r=>(W.tie k).bot*bp W r
def IC(W:aR):Int:=bp W W.rng
def ch(W:aR)(k:Int)(b:Bool):Fr:=if b then((W.tie k).top,(W.tie k).bot) else((W.tie k).bot - (W.tie k).top,(W.tie k).bot)
structure Mc (W:aR) (S:Nat→Std) (n:Nat) (rs:List Fr):Prop where
  len:rs.length=n
  at':∀(j:Nat) (f:Fr),rs[j]?=some f→lj (bp W (S j).1) f
structure L6 (W:aR) (i:Nat) (ss:List Fr):Prop where
  len:ss.length=W.ties.length
  at':∀(j:Nat) (f:Fr),ss[j]?=some f→Ic (IC W) (i:Int) f
def HX(sc:Qm)(x:Str):Bool:=match sc.names.lookup x with
  | some .local=>true
  | some .cell=>true
  | some .free=>true
  | _=>false
theorem Ew{sc:Qm}{x:Str}(h:HX sc x=true):Iq sc x:=by
  unfold HX at h
  unfold Iq
  split at h
  · rename_i e;exact .inl e
  · rename_i e;exact .inr (.inl e)
  · rename_i e;exact .inr (.inr e)
  · cases h
section
variable{X:Cx}{K:PF}
theorem qw(i:Nat){x:Str}{pos:Pos}(hN:X.N[i]?=some x)(hv:HX X.env.scope x=true)(hd:((x==("__debug__":Str)) || (x==("__classdict__":Str)))=false):PE X (.Name x pos) (fE K (ae i)):=qv i hN (Ew hv) (UC.mp hd).1 (UC.mp hd).2
end
section
variable{X:Cx}{tg a b c:PH}{ta:TA}{p pos p2 pos2:Pos}
end
section
variable{K:PF}{σ:L2.St}
end
section
variable{X:Cx}{K:PF}{tg a b c:PH}{fs:FA}{pos p p2 pos2:Pos}
end
section
variable(P:PK)(w:PJ)
end
section
variable{P:PK}{w:PJ}{H H':Hp}{h h':PL}{a:xM}{o:HO}
end
section
variable{P:PK}{w:PJ}{H:Hp}{h h':PL}{x e:xM}{o':HO}
end
section
variable{fs fs' ex ex':List xM}{H H1 H2:Hp}{h h1 h2 h':PL}{a x e:xM}{o:HO}
end
section
variable{X:Cx}{pins:List (xM × Obj)}{σ:List (Option V)}{H H':Hp}{s:PB}{h':PL}
end
section
variable{X:Cx}
variable{a b:PH}{ta tb:TE}{pos:Pos}
variable{tA tB':TT}{cH:List PH}
end
section
variable{X:Cx}{pins:List (xM × Obj)}{σ:St}{H:Hp}{s:PB}{a:xM}{xs ys:List V}
end
section
variable{X:Cx}{pins:List (xM × Obj)}{σ:St}{H:Hp}{s:PB}{E:MG→PB→Prop}
end
section
variable{X:Cx}{st:PN}{cH:List PN}{t u:TS}{e:PH}{te:TE}{pos:Pos}
end
section
variable{X:Cx}{pos:Pos}
end
section
variable{X:Cx}{pos:Pos}
end
section
variable{X:Cx}{tg:PH}
end
section
variable{X:Cx}{a b c:PH}{ta tb tc:TE}{pos:Pos}
end
section
variable{X:Cx}{a b c:PH}{ta tb tc:TE}{pos:Pos}
end
section
variable{prog:PK}{w:PJ}{A:PP}{E:MG→PB→Prop}{s:PB}{K:PF}{x dx C f:xM}{mA:Str→Option MG}{name:Str}{v:MG}
end
section
variable{P:PK}{w:PJ}{H H':Hp}{h h':PL}{a C dx:xM}{fs fs':List (Str × V)}
end
section
variable{X:Cx}{pins:List (xM × Obj)}{σ:St}{H:Hp}{s:PB}{a C dx:xM}{fs:List (Str × V)}{f:Str}{v:V}{A:PP}{E:MG→PB→Prop}
end
section
variable{X:Cx}{o e value:PH}{f:Str}{pos pos' tpos:Pos}{ta tv:TE}
end
section
variable{X:Cx}{pins:List (xM × Obj)}{σ:St}{H:Hp}{s:PB}{A:PP}{E:MG→PB→Prop}{Q:MG→PB→Prop}{c:MG}{b:Bool}
end
section
variable{X:Cx}{e:PH}{es:List PH}{te:TE}{t:TA}{pos:Pos}
end
section
variable{X:Cx}{pins:List (xM × Obj)}{σ:St}{H:Hp}{s s':PB}
end
section
variable{X:Cx}{CX:uH}{k:Nat}{f C:xM}{fd:PZ}{ps:List Str}{sp:Sp}{dvs:List V}{ds:List MG}{E:XK}{x m:Str}{p pos apos:Pos}{e o:PH}{es:List PH}{ta:TE}{t:TA}
end
section
variable{X:Cx}{CX:uH}{k:Nat}{f C:xM}{fd:PZ}{ps ks:List Str}{sp:Sp}{E:XK}{x m:Str}{p pos apos kpos:Pos}{e o:PH}{es:List PH}{kws:List QQ}{te ta:TE}{t tk:TA}{nm:Option Str}
variable{g:List MG→List MG→List MG}{gV:List V→List V→List V}
end
section
variable{X:Cx}{x:Str}{p pos:Pos}{e:PH}{es:List PH}{t:TA}{id T:String}{r:List V→Hp→VK→Prop}
end
section
variable{κ:Type}[DecidableEq κ]
def Jw(kvs:List (κ × V))(k:κ)(v:V):List (κ × V):=
  if (kvs.any fun kv=>decide (kv.1=k))=true then kvs.map (fun kv=>if kv.1=k then(kv.1,v) else kv) else kvs++[(k,v)]
end
section
variable{P:PK}{w:PJ}{H:Hp}{h:PL}{a:xM}
end
section
variable{X:Cx}{pins:List (xM × Obj)}{σ:St}{H:Hp}{s:PB}{a:xM}{y v:V}{u r:MG}{o:Option V}{A:PP}{E:MG→PB→Prop}
end
section
variable{X:Cx}{pins:List (xM × Obj)}{σ:St}{H:Hp}{s:PB}{a:xM}{kvs:List (j1 × V)}{k:j1}{u:MG}{A:PP}{E:MG→PB→Prop}
end
def KD(i:PH):Prop:=∀ov iv,subscripted i false ov iv=operate [ov,iv] (getItem ov iv)
theorem Ee{prog:PK}{w:PJ}{A:PP}{E:MG→PB→Prop}{s:PB}{env:Env}{value slice:PH}{pos:Pos}{T id:String}{Q:MG→PB→Prop}
    (hl:typeLookup (.type T) "__getitem__"=pure (some (.builtin id)))(hs:KD slice)
    (h:PM (PQ prog w) A (PV value env) (fun o s₁=>PM (PQ prog w) A (PV slice env) (fun i s₂=>s₂.TypeIs o T∧PM (PQ prog w) A (getItem o i) Q E s₂) E s₁) E s):
    PM (PQ prog w) A (PV (.Subscript value slice pos) env) Q E s:=by
  refine Subscript_ (Re h (fun o s₁ h₁=>Re h₁ (fun i s₂ h₂=>?_) fun _ _ x=>x) fun _ _ x=>x)
  obtain⟨hT,h₂⟩:=h₂
  unfold subscriptTail
  refine PR ?_
  rw [getitemInPython_of_ne hT.not_modules]
  refine PR (wpAny_specialOf hT hl ?_)
  have fin:PM (PQ prog w) A (subscripted slice false o i) (fun r s₃=>PM (PQ prog w) A (letTemporaryGo value o r >>= fun _=>pure r) Q E s₃) E s₂:=by
    rw [hs o i]
    exact wpAny_operating (Re h₂ (fun r s₃ h₃=>PR (wpAny_letTemporaryGo (Qa h₃))) fun _ _ x=>x)
  first
    | exact Qa (PR fin)
    | exact PR (Qa (PR fin))
    | exact PR fin
section
variable{X:Cx}{o i e value:PH}{pos pos' tpos:Pos}{td ty tv:TE}
end
section
variable{X:Cx}{pos:Pos}
end
section
variable{X:Cx}{pins:List (xM × Obj)}{σ:St}{H:Hp}{s:PB}{a:xM}{y d:V}{u r:MG}{o:Option V}{A:PP}{E:MG→PB→Prop}
end
section
variable{X:Cx}{o e f:PH}{apos cpos:Pos}{td ty tx:TE}
end
section
variable{X:Cx}{pins:List (xM × Obj)}{σ:St}{H:Hp}{s:PB}{a:xM}{kvs:List (j1 × V)}{A:PP}{E:MG→PB→Prop}
end
section
variable{X:Cx}{pins:List (xM × Obj)}{σ:St}{H:Hp}{s:PB}{a:xM}{y:V}{u:MG}{A:PP}{E:MG→PB→Prop}
end
end L2
namespace Att
open PySem PySem.W PySem.Calls PyProof.Rows
section
variable{prog:PK}{w:PJ}{A:PP}{E:MG→PB→Prop}{s:PB}{K:Frag}
end
end Att
namespace L2
open PySem PySem.Spec PyProof.Rows
section
variable{P:PK}{w:PJ}{K:PF}{mg:Str→Option MG}{base:PL}
end
section
variable{X:Cx}
end
section
variable{κ:Type}[DecidableEq κ]
end
def Ka:PD→String
  | .none=>"NoneType"
  | .bool _=>"bool"
  | .int _=>"int"
  | .str _=>"str"
  | .tuple _=>"tuple"
  | .list _=>"list"
  | .dict _=>"dict"
def HL(t T:String):Bool:=t==T || (t=="bool"&&T=="int")
def IV(T:String)(d:PD):Bool:=HL (Ka d) T
def Ag(T:String):En→Rv→Option Rv:=fun _ r=>match r with
  | .d x=>some (.d (.bool (IV T x)))
  | _=>some (.d (.bool (IV T (.list []))))
section
variable{X:Cx}{K:PF}{a:PH}{fa:FE}{pos p p2:Pos}
def KO(K:PF)(H:Hp):V→String→Prop
  | .non,t=>t="NoneType"
  | .bl _,t=>t="bool"
  | .int _,t=>t="int"
  | .str _,t=>t="str"
  | .ref a,t=>(t="tuple"∧∃xs,fB K H a xs)∨(t="list"∧∃xs,iJ K H a xs)∨(t="dict"∧∃m,H a=some (.dK m))
  | _,_=>False
theorem z3{T:String}:dX X (.builtin "isinstance") (fun xs H Q=>∃x t b,xs=[x,.ty T]∧KO X.K H x t∧PySem.W.kitOne X.K (.type t) (.type T)=some b∧Q (.bl b) H):=by
  intro pins s σ H xs us Q I r h
  obtain⟨x,t,b,rfl,ht,hk,q⟩:=h
  obtain⟨u1,u2,rfl,r1,r2⟩:∃u1 u2,us=[u1,u2]∧bN x u1∧bN (.ty T) u2:=by
    cases r with
    | cons p q=>cases q with
      | cons p' q'=>cases q';exact⟨_,_,rfl,p,p'⟩
  cases r2
  have q':∀tk,EP X pins σ Q (.bool b) {s with toks:=tk}:=fun tk=>⟨.bl b,H,I.tok _,rfl,q⟩
  cases x with
  | non=>cases (show u1=Value.none from r1);cases (show t=_ from ht);exact SD PySem.W.kitx_none I.kIn SO hk (fun z=>nomatch z) q'
  | bl y=>cases (show u1=Value.bool y from r1);cases (show t=_ from ht);exact SD PySem.W.kitx_bool I.kIn SO hk (fun z=>nomatch z) q'
  | int i=>obtain⟨tt,rfl⟩:=r1;cases (show t=_ from ht);exact SD PySem.W.kitx_int I.kIn SO hk (fun z=>nomatch z) q'
  | str y=>obtain⟨tt,rfl⟩:=r1;cases (show t=_ from ht);exact SD PySem.W.kitx_str I.kIn SO hk (fun z=>nomatch z) q'
  | ref a=>
    cases (show u1=Value.ref a from r1)
    rcases ht with ⟨rfl,xs,hs⟩ | ⟨rfl,xs,hs⟩ | ⟨rfl,m,hs⟩
    · obtain⟨its,rv,pl,hz⟩:=I.tuple hs
      obtain⟨o,h1,h2⟩:=pl.typeIs
      exact SD PySem.W.kitx_tuple I.kIn ⟨o,h1,h2⟩ hk (fun z=>nomatch z) q'
    · obtain⟨its,rv,pl,hz⟩:=I.list hs
      obtain⟨o,h1,h2⟩:=pl.isList.typeIs
      exact SD PySem.W.kitx_list I.kIn ⟨o,h1,h2⟩ hk (fun z=>nomatch z) q'
    · obtain⟨_,_,vs,_,pp⟩:=(show gO X.prog X.w H s.heap a (.dK m) from I.hok a _ hs)
      obtain⟨o,es,ep,h1,h2,_⟩:=pp
      exact SD PySem.W.kitx_dict I.kIn ⟨o,h1,h2.1⟩ hk (fun z=>nomatch z) q'
  | _=>exact Rf ht
theorem Ba{x:Str}{T:String}(hg:Gl X x)(hm:X.mg x=none)(hv:Rt x=some (.type T))(hn:x≠"__name__")(hd:(x==("__debug__":Str))=false):PE X (.Name x pos) (tC (.ty T)):=fun pins s σ H Q I h=>
  t_ I hg hm hv ⟨.ty T,H,I,rfl,h⟩ hn hd
theorem Gi{t T:String}(ht:t∈["NoneType","bool","int","str","tuple","list","dict"])(hT:T∈["int","bool","tuple","str"]):PySem.W.kitOne K (.type t) (.type T)=some (HL t T):=by
  simp only [Qz,QZ,or_false] at ht hT
  rcases ht with rfl | rfl | rfl | rfl | rfl | rfl | rfl<;>rcases hT with rfl | rfl | rfl | rfl<;>rfl
theorem Eo(d:PD):Ka d∈["NoneType","bool","int","str","tuple","list","dict"]:=by cases d<;>simp [Ka]
theorem HS{F H:Hp}{d:PD}{v:V}(h:DA K F d v)(s:ax F H):KO K H v (Ka d):=by
  have h:=DA.mono s h
  cases d with
  | none=>rw [gW.mp h];rfl
  | bool b=>rw [ef.mp h];rfl
  | int b=>rw [cA.mp h];rfl
  | str b=>rw [jy.mp h];rfl
  | tuple ds=>obtain⟨a,xs,rfl,h1,_⟩:=eC.mp h;exact .inl ⟨rfl,xs,h1⟩
  | list ds=>obtain⟨a,xs,rfl,h1,_⟩:=gF.mp h;exact .inr (.inl ⟨rfl,xs,h1⟩)
  | dict m=>simp only [DA] at h;obtain⟨a,m,rfl,h1,_⟩:=h;exact .inr (.inr ⟨rfl,_,h1⟩)
theorem CG{f:FE}{σ:L2.St}{H:Hp}{Q Q':VK}(h:fE K f σ H Q)(m:∀v H1,Q v H1→Q' v H1):fE K f σ H Q':=by
  obtain⟨F,e,r,e',R,hf,q⟩:=h
  exact⟨F,e,r,e',R,hf,fun F' H' v x R' A=>m _ _ (q F' H' v x R' A)⟩
theorem IW{T:String}:Ig K (fun v H Q=>∃t,t∈["NoneType","bool","int","str","tuple","list","dict"]∧KO K H v t∧Q (.bl (HL t T)) H) (Ag T):=by
  intro σ H0 F H e x z v Q R A hg q
  unfold Ag at hg
  cases x with
  | d d=>
    cases hg
    exact⟨Ka d,Eo d,HS A R.sm,q F H _ (dY.refl _ _ _ _) R fj⟩
  | l xs=>
    cases hg
    obtain⟨l,vs,rfl,h1,h2,h3,h4⟩:=A
    exact⟨"list",by simp,.inr (.inl ⟨rfl,vs,iJ.of h3⟩),q F H _ (dY.refl _ _ _ _) R fj⟩
  | s i=>
    cases hg
    obtain⟨h1,xs,h2⟩:=A
    obtain⟨l,vs,h3,h4,h5,h6⟩:=R.own i xs h2
    rw [h1] at h3;cases h3
    exact⟨"list",by simp,.inr (.inl ⟨rfl,vs,iJ.of h5⟩),q F H _ (dY.refl _ _ _ _) R fj⟩
theorem Jz{x:Str}{T:String}(hK:X.K=K)(hT:T∈["int","bool","tuple","str"])(hg:Gl X "isinstance")(hm:X.mg "isinstance"=none)(hgT:Gl X x)(hmT:X.mg x=none)(LQ:Rt x=some (.type T))(hn:x≠"__name__")(hd:(x==("__debug__":Str))=false)
    (ha:PE X a (fE K fa))(he:PU [a,.Name x p2] X.env=(false,PV a X.env)::PU [.Name x p2] X.env)(hpl:(Qf pos (PU [.Name x p2] X.env)).any (·.1)=false):
    PE X (.Call (.Name "isinstance" p) [a,.Name x p2] [] pos) (fE K (qV (Ag T) fa)):=
  (qg (z3 (T:=T)) hg hm boot_isinstance (mP ha (mP (Ba hgT hmT LQ hn hd) lR) he) (by decide) (by decide) he hpl).mono fun σ H Q h=>by
    subst hK
    have h1:=Cc (IW (T:=T)) h
    refine CG h1 fun v H1 ⟨t,ht,k,q⟩=>?_
    exact⟨v,t,_,rfl,k,Gi ht hT,q⟩
end
section
variable{X:Cx}{K:PF}
end
section
variable{X:Cx}{K:PF}{σ:L2.St}{F H:Hp}{e:En}{pos p1 p2:Pos}
end
section
variable{X:Cx}{K:PF}{a b c d:PH}{ta tb tc td:TE}{fa fb fc fd:FE}{pos:Pos}
end
section
variable{X:Cx}{K:PF}{a b:PH}{es:List PH}{fa fb:FE}{fs:FA}{pos p apos:Pos}
def bJ:Rv→Option Str
  | .d (.str x)=>some x
  | _=>none
theorem cX{σ:L2.St}{H0 F H:Hp}{e:En}{r:Rv}{v:V}{x:Str}(h:cK K σ H0 F H e r v)(q:bJ r=some x):v=.str x:=by
  unfold bJ at q
  split at q
  · cases q;exact jy.mp (show DA K F (.str _) v from h)
  · cases q
theorem kz{σ:L2.St}{H0 F H:Hp}{e:En}{x:Str}:cK K σ H0 F H e (.d (.str x)) (.str x):=(show DA K F (.str x) (.str x) from jy.mpr rfl)
def ba:En→Rv→Rv→Option Rv:=fun _ x y=>(bJ x).bind fun i=>(bJ y).bind fun j=>if i.length+j.length≤1000000 then some (.d (.str (i++j))) else none
def E8:R2:=fun x y H Q=>∃i j,x=.str i∧y=.str j∧i.length+j.length≤PY∧Q (.str (i++j)) H
theorem Dm:iH X (Qt .Add) E8:=by
  intro pins s σ H x y v u Q I rx ry h
  obtain⟨i,j,rfl,rfl,hl,q⟩:=h
  obtain⟨t,rfl⟩:=rx;obtain⟨t',rfl⟩:=ry
  exact PyProof.Rows.add_str (fun t' tk=>⟨.str (i++j),H,I.tok _,⟨_,rfl⟩,q⟩) hl
theorem Fy:gT K E8 ba:=by
  intro σ H0 F H e x y z v u Q R A B hg q
  unfold ba at hg
  obtain⟨i,h1,hg⟩:=Pr hg
  obtain⟨j,h2,hg⟩:=Pr hg
  split at hg
  case isFalse=>cases hg
  case isTrue hl=>
  cases hg
  exact⟨i,j,cX A h1,cX B h2,by rw [QC];lia,q F H _ (dY.refl _ _ _ _) R kz⟩
theorem fg(ha:PE X a (fE K fa))(hb:PE X b (fE K fb)):PE X (.BinOp a .Add b pos) (fE K (aw ba fa fb)):=mW Dm Fy ha hb
def eY:En→Rv→Option Rv:=fun _ x=>match x with
  | .d (.int i)=>if i.natAbs.log2 < 1900 then some (.d (.str (toString i:String))) else none
  | .d (.str x)=>some (.d (.str x))
  | _=>none
def BD:V→Hp→VK→Prop:=fun v H Q=>(∃i:Int,v=.int i∧i.natAbs.log2 < 1900∧Q (.str (toString i:String)) H)∨∃x,v=.str x∧Q (.str x) H
theorem yY:dX X (.type "str") (fun xs H Q=>∃v,xs=[v]∧BD v H Q):=by
  intro pins s σ H xs us Q I r h
  obtain⟨v,rfl,h⟩:=h
  obtain⟨u,rfl,ru⟩:=jK r
  rcases h with ⟨i,rfl,hi,q⟩ | ⟨x,rfl,q⟩
  · obtain⟨t,rfl⟩:=ru
    exact PySem.P.str_of_int (by lia) ⟨.str _,H,I.tok _,⟨_,rfl⟩,q⟩
  · obtain⟨t,rfl⟩:=ru
    exact PySem.P.str_of_str ⟨.str _,H,I,⟨_,rfl⟩,q⟩
theorem HJ:Ig K BD eY:=by
  intro σ H0 F H e x z v Q R A hg q
  unfold eY at hg
  split at hg
  · split at hg
    case isFalse=>cases hg
    case isTrue hi=>
    cases hg
    exact .inl ⟨_,cA.mp (show DA K F (.int _) v from A),hi,q F H _ (dY.refl _ _ _ _) R kz⟩
  · cases hg
    exact .inr ⟨_,jy.mp (show DA K F (.str _) v from A),q F H _ (dY.refl _ _ _ _) R kz⟩
  · cases hg
theorem HI:dS K (fun xs H Q=>∃v,xs=[v]∧BD v H Q) (g1 eY):=fU fun σ H0 F H e x z v Q R A hg q=>⟨v,rfl,HJ σ H0 F H e x z v Q R A hg q⟩
theorem b_str:lC X K "str" (g1 eY):=⟨.inr ⟨_,_,yY,HI,PyProof.Rows.boot_str⟩⟩
def vT:List PD→Option (List Str)
  | []=>some []
  | .str x::r=>(vT r).map (x::·)
  | _::_=>none
theorem vU:∀{ds:List PD} {ys:List Str},vT ds=some ys→ds=ys.map .str
  | [],_,h=>by cases h;rfl
  | .str x::r,ys,h=>by
    obtain⟨zs,h1,rfl⟩:=Pt h
    rw [vU h1];rfl
  | .none::_,_,h=>by cases h
  | .bool _::_,_,h=>by cases h
  | .int _::_,_,h=>by cases h
  | .tuple _::_,_,h=>by cases h
  | .list _::_,_,h=>by cases h
  | .dict _::_,_,h=>by cases h
theorem uU{F:Hp}:∀{ys:List Str} {xs:List V},aT K F (ys.map .str) xs→xs=ys.map V.str
  | [],_,h=>by simpa [aT] using h
  | y::ys,_,h=>by
    simp only [Qk,aT,DA] at h
    obtain⟨x,r,e,rfl,q⟩:=h
    rw [e,uU q];rfl
def oB:En→Rv→Rv→Option Rv:=fun e x y=>(bJ x).bind fun sep=>(cU e y).bind fun p=>(vT p.2).bind fun ys=>if sep.length≤16∧(ys.map (·.length)).sum+ys.length≤1048576 then some (.d (.str (Txt.join sep ys))) else none
def E9(K:PF):V→List V→Hp→VK→Prop:=fun x vs H Q=>∃sep l ys,x=.str sep∧vs=[.ref l]∧(iJ K H l (ys.map V.str)∨fB K H l (ys.map V.str))∧sep.length≤16∧(ys.map (·.length)).sum+ys.length≤1048576∧Q (.str (Txt.join sep ys)) H
theorem l5:∀{ys:List Str} {us:List MG},aV (ys.map V.str) us→StrsAre us ys
  | [],_,h=>by cases h;exact .nil
  | y::ys,_,h=>by
    cases h with
    | cons p q=>obtain⟨t,rfl⟩:=p;exact .cons _ _ (l5 q)
theorem C7:Ib X "str.join" (E9 X.K):=by
  intro pins s σ H x vs v us Q I rx rv h
  obtain⟨sep,l,ys,rfl,rfl,hs,h1,h2,q⟩:=h
  obtain⟨t,rfl⟩:=rx
  obtain⟨u,rfl,ru⟩:=jK rv
  cases ru
  have q':∀t' k,EP X pins σ Q (.str (Txt.join sep ys) t') {s with toks:=k}:=fun t' k=>⟨.str _,H,I.tok _,⟨_,rfl⟩,q⟩
  rcases hs with hs | hs
  · obtain⟨its,r,pl,hz⟩:=I.list hs
    exact join_listW pl.isList (l5 r) h1 h2 q'
  · obtain⟨its,r,pl,hz⟩:=I.tuple hs
    exact join_tupleW pl (l5 r) h1 h2 q'
theorem F7:gT K (fun v u H Q=>E9 K v [u] H Q) oB:=by
  intro σ H0 F H e x y z v u Q R A B hg q
  unfold oB at hg
  obtain⟨sep,h1,hg⟩:=Pr hg
  obtain⟨⟨k,ds⟩,h2,hg⟩:=Pr hg
  obtain⟨ys,h3,hg⟩:=Pr hg
  split at hg
  case isFalse=>cases hg
  case isTrue hl=>
  cases hg
  obtain⟨l,ws,rfl,d1,s1⟩:=cV R B h2
  have e1:=vU h3
  subst e1
  have e2:=uU d1
  subst e2
  refine⟨sep,l,ys,cX A h1,rfl,?_,hl.1,hl.2,q F H _ (dY.refl _ _ _ _) R kz⟩
  cases k with
  | true=>exact .inl s1
  | false=>exact .inr s1
theorem Bp{x:Str}{j:Nat}{p0:Pos}(hK:X.K=K)(ha:PE X a (fE K fa))(hs:PU [a] X.env=(false,PV a X.env)::PU [] X.env)
    (hbase:Rw (.Constant (.str x) j p0) "join" X.env (PV (.Constant (.str x) j p0) X.env)=PV (.Constant (.str x) j p0) X.env)
    (hfew:((Qf pos (PU [a] X.env)).all (fun x=> !x.1)&&(Rz pos (RB [] X.env)).all (fun x=>x.1.isSome)&&decide (([a]:List PH).length+([]:List QQ).length+(if ([]:List QQ).isEmpty then 0 else 1) < 30))=true)
    (hline:(apos.endLine==pos.line)=true)(hplain:(Qf pos (PU [] X.env)).any (·.1)=false):
    PE X (.Call (.Attribute (.Constant (.str x) j p0) "join" apos) [a] [] pos) (fE K (aw oB (vC (.str x)) fa)):=
  (A8 UD PySem.F.slot_str_join PySem.F.type_str_join C7 (@xq X x j p0) (mP ha lR hs) hbase hfew hline hs hplain).mono fun σ H Q h=>by
    subst hK
    have h1:=qR F7 h
    obtain⟨F,e,r,e',R,hf,q⟩:=h1
    cases hf
    exact⟨rfl,q F H _ (dY.refl _ _ _ _) R kz⟩
theorem pZ(x y:Str):(x++y).length=x.length+y.length:=strLen_append x y
end
section
variable{X:Cx}{K:PF}{a b:PH}{fa fb:FE}{fs:FA}{pos p p2 p3:Pos}
end
def bq(W:aR)(as:List Int):Int:=bp W (W.rng.filter fun k=> !as.contains k)
def wI(l:Nat):Int:=1000*(2 ^ (16 - l) - 1)
theorem Kb{l:Nat}:0≤wI l∧wI l≤65536000:=by
  unfold wI
  have h1:(2:Nat) ^ (16 - l)≤2 ^ 16:=Tg (by decide) (by lia)
  have h2:1≤(2:Nat) ^ (16 - l):=Nat.one_le_two_pow
  have e:((2:Int) ^ (16 - l))=((2 ^ (16 - l):Nat):Int):=by simp
  rw [e]
  lia
structure LY (W:aR) (k:Int) (as:List Int) (y n:Fr):Prop where
  y:Ic (bq W (aR.askd as k)) (wI (as.length+1)) y
  n:Ic (bq W (aR.askd as k)) (wI (as.length+1)) n
  len:as.length≤15
  inw:h8 W k
  new:k∉as
def lk(ws:List Fr)(l:Int):Fr:=if l= -1 then(0,1) else ws.getD l.toNat (0,1)
structure KR (W:aR) (S:Nat→Std) (n:Nat) (ws:List Fr):Prop where
  len:ws.length=n
  at':∀(j:Nat) (f:Fr),ws[j]?=some f→Ic (bq W (S j).1) (wI (S j).1.length) f
theorem HZ{M i:Int}(h:0≤i):Ic M i (0,1):=⟨by decide,by decide,by show(0:Int)≤i*1;lia,Int.one_dvd _⟩
theorem yj{W:aR}{S:Nat→Std}{n:Nat}{ws:List Fr}{i:Nat}{k:Int}{b:Bool}{l:Int}(h:KR W S n ws)(hl:Fu W n S i k b l):Ic (bq W (aR.askd (S i).1 k)) (wI ((S i).1.length+1)) (lk ws l):=by
  unfold lk
  rcases hl with hl | ⟨h1,h2,h3⟩
  · rw [if_pos hl];exact HZ Kb.1
  · rw [if_neg (by lia)]
    have hil:l.toNat < ws.length:=by rw [h.len];lia
    have e:ws[l.toNat]?=some (ws.getD l.toNat (0,1)):=by simp [hil]
    have:=h.at' _ _ e
    rw [h3] at this
    have e1:(nxt W (S i) k b).1.length=(S i).1.length+1:=pG
    rw [e1] at this
    exact this
theorem fD{cs:En}{g:FG}{ft:FT}{fe:FE}{b:PD→Bool}{y:PD→PD}{u:PD→En}(n:Nat):∀(items:List PD) (t:En) (acc:List PD),t.length=n→(∀x∈items,∀t:En,t.length=n→g x (cs++t)=some (cs++u x))→(∀x∈items,(u x).length=n)→
    (∀x∈items,ft (cs++u x)=some (b x,cs++u x))→(∀x∈items,b x=true→fe (cs++u x)=some (.d (y x),cs++u x))→acc.length+items.length≤1000000→
    ∃t',t'.length=n∧gc g ft fe items (cs++t) acc=some (acc++(items.filter b).map y,cs++t')
  | [],t,acc,h,_,_,_,_,_=>⟨t,h,by simp [gc]⟩
  | x::r,t,acc,h,hg,hu,h1,h2,hl=>by
    have h1x:=h1 x (by simp)
    unfold gc
    rw [hg x (by simp) t h]
    simp only [Qb,h1x]
    cases hb:b x with
    | true=>
      simp only [if_true,h2 x (by simp) hb,Qb,iw]
      rw [if_pos (by simp at hl;lia)]
      obtain⟨t',e1,ih⟩:=fD (b:=b) (y:=y) (u:=u) n r (u x) (acc++[y x]) (hu x (by simp)) (fun z hz=>hg z (by simp [hz])) (fun z hz=>hu z (by simp [hz])) (fun z hz=>h1 z (by simp [hz])) (fun z hz=>h2 z (by simp [hz])) (by simp at hl ⊢;lia)
      exact⟨t',e1,by rw [ih];simp [hb]⟩
    | false=>
      simp only [SW,if_false]
      obtain⟨t',e1,ih⟩:=fD (b:=b) (y:=y) (u:=u) n r (u x) acc (hu x (by simp)) (fun z hz=>hg z (by simp [hz])) (fun z hz=>hu z (by simp [hz])) (fun z hz=>h1 z (by simp [hz])) (fun z hz=>h2 z (by simp [hz])) (by simp at hl;lia)
      exact⟨t',e1,by rw [ih];simp [hb]⟩
theorem ip{nT:Nat}{fi:FI}{g:FG}{ft:FT}{fe:FE}{e e1 eo:En}{items out:List PD}{own:jZ}(h1:fi e=some (items,own,e1))(h3:gc g ft fe items (PX nT none) []=some (out,eo)):cf [] nT fi g ft fe e=some (.l out,e1):=by
  unfold cf
  rw [h1]
  simp only [Qb]
  rw [if_pos (by simp),show tS [] nT e1=PX nT none from rfl,h3]
  simp only [Qb]
  rw [if_pos (by simp [jt])]
  congr 2
  refine Si fun i=>?_
  rw [b_]
  match h:e1[i]? with
  | none=>rfl
  | some none=>rfl
  | some (some (.d x))=>rfl
  | some (some (.n x))=>rfl
  | some (some (.l x))=>rfl
noncomputable def nS(n:Int):Str:=Pz (toString n)
theorem Da:∀n:Fin 1001,(Pz (toString ((n.val:Nat):Int))).length≤4:=by decide+kernel
theorem GI{n:Int}(h0:0≤n)(h1:n≤1000):(nS n).length≤4:=by
  have:=Da ⟨n.toNat,by lia⟩
  rw [show(((⟨n.toNat,by lia⟩:Fin 1001).val:Nat):Int)=n by simp;lia] at this
  exact this
theorem p8(n:Int):Qe (nS n)=true:=au _
theorem GC{n:Int}(h0:0≤n)(h1:n≤1000):n.natAbs.log2 < 1900:=by
  have:=Nat.log2_le_self n.natAbs
  lia
theorem Aj{e:En}{i:Int}(h0:0≤i)(h1:i≤1000):g1 eY e [.d (.int i)]=some (.d (.str (nS i))):=by
  simp only [g1,eY]
  rw [if_pos (GC h0 h1)];rfl
theorem Ak{e:En}{x:Str}:g1 eY e [.d (.str x)]=some (.d (.str x)):=rfl
theorem dH{e:En}{a b:Str}(h:a.length+b.length≤1000000):ba e (.d (.str a)) (.d (.str b))=some (.d (.str (a++b))):=by
  simp only [ba,bJ,Qb];rw [if_pos h]
theorem ph(a b:Str):(a++b).length=a.length+b.length:=strLen_append a b
theorem sum_le{ls:List Str}{k:Nat}(h:∀x∈ls,x.length≤k):(ls.map (·.length)).sum≤ls.length*k:=by
  induction ls with
  | nil=>simp
  | cons x r ih=>
    have h1:=h x (by simp)
    have h2:=ih fun y hy=>h y (by simp [hy])
    simp only [Qk,List.sum_cons,Ro,Nat.succ_mul]
    lia
section
variable{X:Cx}{K:PF}{a:PH}{fa:FE}{pos p pos2 p2:Pos}
end
section
variable{X:Cx}{K:PF}{a:PH}{fa:FE}
end
abbrev Rn:=List (Int × Bool)
def CJ(R:Rn):List Int:=R.map (·.1)
def EJ(W:aR)(R:Rn):List Int:=(R.filter (·.2)).flatMap fun r=>[(W.tie r.1).one,(W.tie r.1).other]
structure Mb (W:aR) (R:Rn) (asked taken:List Int):Prop where
  pa:asked.Perm (CJ R)
  pt:taken.Perm (EJ W R)
  inw:∀k∈CJ R,h8 W k
  nd:(CJ R).Nodup
  nk:(EJ W R).Nodup
  bd:∀t:Int,0≤t→t < W.things→W.many (CJ R) t≤W.pat.getD t.toNat 0
  ak:(R.length:Int)≤W.asks
  sa:asked.Pairwise (· ≤·)
  st:taken.Pairwise (· ≤·)
section
variable{prog:PK}{w:PJ}{A:PP}{R:Result→PB→Prop}
end
def HN(l:xM)(wi:TI)(g:TG)(tc:TT)(te:TE)(σ:L2.St)(H:Hp)(N:L2.St→Hp→Prop):Prop:=
  wi σ H fun J H1=>∃W:Nat→Nat→L2.St→Hp→Prop,(∃m,W 0 m σ H1)∧∀i m σ' H',W i m σ' H'→
    (J.stop i H'∧N σ' H')∨(J.go i H'∧∃N2:L2.St→Hp→Prop,(∀σ2 H2,N2 σ2 H2→∃m',m' < m∧W (i+1) m' σ2 H2)∧
      ∀x H2,J.yld i H' x H2→g x σ' H2 fun σ2 H3=>tc σ2 H3 fun b H4=>if b=true then te σ2 H4 fun v H5=>∃ys,H5 l=some (.lst ys)∧ys.length < PY∧N2 σ2 (cy H5 l (.lst (ys++[v]))) else N2 σ2 H4)
structure Lo (cp:List (Nat × Str)) (nT:Nat) (wi:TI) (g:TG) (tc:TT) (wi2:TI) (g2:TG) (tc2:TT) (te:TE) (σ:L2.St) (H:Hp) (Q:VK):Prop where
  go:wi σ H fun J H1=>∀l,H1 l=none→
  ∃W:Nat→Nat→L2.St→Hp→Prop,(∃m,W 0 m (jP cp nT σ) (cy H1 l (.lst [])))∧∀i m σ' H',W i m σ' H'→
    (J.stop i H'∧Q (.ref l) H')∨(J.go i H'∧∃N:L2.St→Hp→Prop,(∀σ2 H2,N σ2 H2→∃m',m' < m∧W (i+1) m' σ2 H2)∧
      ∀x H2,J.yld i H' x H2→g x σ' H2 fun σ2 H3=>tc σ2 H3 fun b H4=>if b=true then HN l wi2 g2 tc2 te σ2 H4 N else N σ2 H4)
section
variable{K:PF}{F H:Hp}{σ:L2.St}{e:En}{cp:List (Nat × Str)}{nT:Nat}
end
section
variable{X:Cx}{K:PF}{pos:Pos}
end
section
variable{X:Cx}{K:PF}{pos:Pos}
variable{o:PH}{fo:FE}{apos cpos:Pos}
end
section
variable{X:Cx}{K:PF}
def Mp:List Int→Int
  | []=>0
  | x::r=>r.foldl max x
end
structure L_ (f:Fr):Prop where
  pos:0 < f.2
  cop:Qd f.1 f.2=1
def Mi(t:l6)(b:Bool):Fr:=if b then(t.top,t.bot) else(t.bot - t.top,t.bot)
abbrev Pg:=List Int × Int
def Mr(t:l6)(p:Pg):Bool:= !p.1.contains t.one&& !p.1.contains t.other
def KZ(t:l6)(p:Pg):Pg:=(p.1++[t.one,t.other],p.2+t.worth)
def Mv(ps:List Pg)(t:l6):List Pg:=ps++(ps.filter (Mr t)).map (KZ t)
def Ms(ts:List l6):List Pg:=ts.foldl Mv [([],0)]
structure LM (k:Nat) (ps:List Pg):Prop where
  ne:ps≠[]
  len:ps.length≤2 ^ k
  pt:∀p∈ps,p.1.length≤2*k∧0≤p.2∧p.2≤1000*(k:Int)
def LQ(ts:List l6):Int:=Mp ((Ms ts).map (·.2))
theorem wf{cp:List (Nat × Str)}{nT:Nat}{fi:FI}{g:FG}{ft:FT}{fe:FE}{e e1 eo:En}{items out:List PD}{own:jZ}(h1:fi e=some (items,own,e1))(ho:(own.all fun q=> !(cp.any fun c=>c.1==q.1))=true)(h3:gc g ft fe items (tS cp nT e1) []=some (out,eo))(h4:(cp.all fun p=> !yh e1[p.1]?)=true):cf cp nT fi g ft fe e=some (.l out,e1):=by
  unfold cf
  rw [h1]
  simp only [Qb]
  rw [if_pos ho,h3]
  simp only [Qb]
  have hb:jt cp eo e1=true:=by
    unfold jt
    rw [Qp] at h4 ⊢
    intro p hp
    rw [h4 p hp];rfl
  rw [if_pos hb]
  congr 2
  refine Si fun i=>?_
  rw [b_]
  match hi:e1[i]? with
  | none=>rfl
  | some none=>rfl
  | some (some (.d x))=>rfl
  | some (some (.n x))=>rfl
  | some (some (.l x))=>
    cases hp:nU cp i with
    | none=>simp [hp]
    | some k=>
      obtain⟨s,hs⟩:=fN hp
      have:=Qp.mp h4 _ (Py hs)
      simp [hi,yh] at this
section
variable{prog:PK}{w:PJ}{A:PP}{E:MG→PB→Prop}{s:PB}
end
section
variable{X:Cx}{a:PH}{ta:TA}{p p2 pos pos2:Pos}
variable{K:PF}{fs:FA}{p3:Pos}
end
def IU(lo hi:Int):PD→Bool
  | .int i=>decide (lo≤i)&&decide (i≤hi)
  | _=>false
def uniq(many:Int):List Int→List PD→Bool
  | _,[]=>true
  | pre,.int i::r=>IU 0 (many - 1) (.int i)&&(!pre.contains i&&uniq many (pre++[i]) r)
  | _,_::_=>false
mutual
def wt:PD→Nat
  | .list xs=>Cd xs+1
  | .tuple xs=>Cd xs+1
  | .dict _=>1
  | .none=>1
  | .bool _=>1
  | .int _=>1
  | .str _=>1
def Cd:List PD→Nat
  | []=>0
  | x::r=>wt x+Cd r
end
structure Mz (d:PD) (k:Nat):Prop where
  lay:d.canLay0=true
  sh:d.showable=true
  dp:d.depth≤k
  ln:d.shown.length+2≤104*wt d
  so:Qe d.shown=true
section
variable{X:Cx}{K:PF}
variable{a b:PH}{fa fb:FE}{pos:Pos}
end
def tx(s:Str):List Nat:=s.cps.toList
section
variable{X:Cx}{K:PF}{es:List PH}{k0:Nat}{tp:Pos}{a b:PH}{fs:FA}{p pos:Pos}
end
def Mn(x:Nd)(b:Bool):Int:=if b=true then x.yes else x.no
def EU(T:List Nd)(i:Nat)(b:Bool):Int:=match T[i]? with
  | some x=>Mn x b
  | none=> -1
def KP(T:List Nd):Prop:=∀(i j:Nat) (a b:Bool),EU T i a=EU T j b→EU T i a≠ -1→i=j∧a=b
def LB(w:Wt):Int × Int:=(w.par,w.side)
structure MF (T:List Nd) (ws:List Wt):Prop where
  unq:KP T
  rng:∀i a,EU T i a= -1∨(0 < EU T i a∧EU T i a < (T.length:Int))
  free:∀w∈ws,w.par= -1∨(0≤w.par∧w.par < (T.length:Int)∧EU T w.par.toNat (w.side==0)= -1)
  dst:(ws.map LB).Nodup
  side:∀w∈ws,w.side=0∨w.side=1
structure MM (T:List Nd) (w0 ws order:List Int):Prop where
  nd:(order++ws).Nodup
  par:∀v∈order++ws,v=0∨∃u∈order,∃b,EU T u.toNat b=v∧v≠ -1
  fst:(order=[]∧ws=w0)∨order[0]?=some 0
section
variable{prog:PK}{w:PJ}{A:PP}{E:MG→PB→Prop}{s:PB}
end
section
variable{X:Cx}{tg a:PH}{ta:TA}{p pos:Pos}
end
section
variable{X:Cx}{K:PF}{σ:L2.St}{tg a:PH}{fs:FA}{p pos:Pos}
end
section
variable{X:Cx}{a k:PH}{p2 pos:Pos}{fa fk:FE}{K:PF}
section
variable{prog:PK}{w:PJ}{A:PP}{E:MG→PB→Prop}{s:PB}
end
end
section
variable{X:Cx}{a b:PH}{ta:TA}{p p2 pos pos2:Pos}{K:PF}{fs:FA}
end
section
variable{X:Cx}{o i e:PH}{fo fi:FE}{tpos pos:Pos}{K:PF}
end
section
variable{X:Cx}{o i e:PH}{fo fi fv:FE}{tpos pos:Pos}{K:PF}
end
section
variable{X:Cx}{K:PF}
end
section
open PySem.MeetsSeq2 PySem.AutoSeq1 PySem.SeqAt
end
section
variable{X:Cx}{K:PF}{o a:PH}{to te:TE}{name:Str}{apos cpos:Pos}{T id:String}{r:V→List V→Hp→VK→Prop}{fo fa:FE}
end
section
variable{X:Cx}{K:PF}{o a:PH}{apos cpos:Pos}{fo fa:FE}
end
section
variable{K:PF}{F H:Hp}{σ:L2.St}{e:En}{cp:List (Nat × Str)}{nT:Nat}
end
section
variable{X:Cx}{K:PF}{a b:PH}{es:List PH}{fa fb:FE}{fs:FA}{pos p p2 p3:Pos}{lo hi:Option PH}
end
section
variable{X:Cx}{K:PF}
end
section
variable{X:Cx}{K:PF}{a b:PH}{fa fb:FE}{pos:Pos}
end
section
variable{X:Cx}{K:PF}
end
structure Sw (b:Bool) (n dep:Nat) (d:PD):Prop where
  dl:bif b then AO d=true else d.hasDict=false
  sh:d.showable=true
  dp:d.depth≤dep
  ln:d.shown.length+2≤n
  so:Qe d.shown=true
structure S1 (n:Nat) (f:Fr):Prop where
  low:L_ f
  lo:0≤f.1
  hi:f.1≤f.2
  bt:Bt n f.2
def Mm(e:Int)(t:l6):Bool:=t.one==e || t.other==e
structure MN (b f g:Fr):Prop where
  pf:0 < f.2
  pg:0 < g.2
  eq:g.1*(f.2*b.1)=g.2*(f.1*b.2)
def vR(f:Fr):Rat:=(f.1:Rat) / (f.2:Rat)
def cR(t:l6)(b:Bool):Rat:=vR (Mi t b)
def hR(t:l6):Rat:=cR t true*(t.worth:Rat)
structure MJ (O:aR) (ss ws:List Std):Prop where
  len:ss.length=ws.length
  at':∀j,(ss.getD j ([],[])).1=(ws.getD j ([],[])).1∧(ss.getD j ([],[])).2.length≤2*(ss.getD j ([],[])).1.length∧∀k∈(ss.getD j ([],[])).1,h8 O k
structure MD (O:aR) (T:List Nd):Prop where
  tie:∀(i:Nat) (x:Nd),T[i]?=some x→h8 O x.tie
  lk:∀(i:Nat) (x:Nd),T[i]?=some x→(-1≤x.yes∧x.yes < (T.length:Int))∧(-1≤x.no∧x.no < (T.length:Int))
section
variable{K:PF}
variable{X:Cx}{σ:L2.St}{H0 H:Hp}{e:En}
end
section
variable{X:Cx}{a b:PH}{ta:TA}{p p2 pos pos2:Pos}
end
section
variable{X:Cx}{K:PF}{fs:FA}{a b:PH}{p p2 pos pos2:Pos}
end
theorem bV:∀(names:List (Str × QR)) (n:Nat) (acc:List (Str × xM)),Qo n names acc=Qo n names []++acc
  | [],_,_=>rfl
  | (x,k)::r,n,acc=>by
    unfold Qo
    split
    · rw [bV r (n+1) ((x,n)::acc),bV r (n+1) [(x,n)],List.append_assoc];rfl
    · exact bV r n acc
theorem jw:∀(names:List (Str × QR)) (n:Nat) (x:Str) (c:xM),(Qo n names []).lookup x=some c→∃y∈names,y.1=x∧y.2=.cell
  | [],_,_,_,h=>by simp [Qo] at h
  | (z,k)::r,n,x,c,h=>by
    unfold Qo at h
    split at h
    · rename_i hk
      rw [bV,Tn] at h
      cases q:(Qo (n+1) r []).lookup x with
      | some d=>
        obtain⟨y,hy,e⟩:=jw r _ x d q
        exact⟨y,QV _ hy,e⟩
      | none=>
        rw [q] at h
        have h':QP x [(z,n)]=some c:=h
        rw [Qw] at h'
        cases hx:x==z with
        | true=>exact⟨(z,k),RG,(by simpa using hx:x=z).symm,by simpa using hk⟩
        | false=>rw [hx] at h';simp at h'
    · obtain⟨y,hy,e⟩:=jw r n x c h
      exact⟨y,QV _ hy,e⟩
theorem iT:∀(names:List (Str × QR)) (n:Nat) (x:Str),(∃y∈names,y.1=x∧y.2=.cell)→∃c,(Qo n names []).lookup x=some c
  | [],_,_,⟨_,h,_⟩=>by cases h
  | (z,k)::r,n,x,⟨y,hy,e1,e2⟩=>by
    unfold Qo
    split
    · rename_i hk
      rw [bV,Tn]
      cases q:(Qo (n+1) r []).lookup x with
      | some d=>exact⟨d,rfl⟩
      | none=>
        rcases Px hy with w | w
        · subst w;subst e1;exact⟨n,by simp [Qw]⟩
        · obtain⟨c,hc⟩:=iT r (n+1) x ⟨y,w,e1,e2⟩
          rw [q] at hc;cases hc
    · rename_i hk
      rcases Px hy with w | w
      · subst w;exact absurd (by simpa using e2) hk
      · exact iT r n x ⟨y,w,e1,e2⟩
theorem rO{env:Env}:∀(names:List (Str × QR)) (cs:List (Str × xM)) (x:Str),(¬∃y∈names,y.1=x∧y.2=.free)→cs.lookup x=none→(jx env names cs).lookup x=none
  | [],_,_,_,h=>h
  | (n,k)::r,cs,x,hn,hcs=>by
    refine rO r _ x (fun⟨y,hy,z⟩=>hn ⟨y,QV _ hy,z⟩) ?_
    by_cases hk:(k==QX)=true
    · rw [if_pos hk,Qw]
      cases hx:x==n with
      | true=>exact absurd ⟨(n,k),RG,(by simpa using hx:x=n).symm,by simpa using hk⟩ hn
      | false=>exact hcs
    · rw [if_neg hk];exact hcs
theorem qp{env:Env}:∀{names:List (Str × QR)} {x:Str},(names.map fun(n,k)=>if (k==QX&&env.scope.kind==.function&&env.kindOf n==some .cell) then(n,Sx) else(n,k)).lookup x=some .cell∨
    (names.map fun(n,k)=>if (k==QX&&env.scope.kind==.function&&env.kindOf n==some .cell) then(n,Sx) else(n,k)).lookup x=some .free→∃y∈names,y.1=x∧(y.2=.free∨y.2=.cell)
  | [],x,h=>by simp at h
  | (n,k)::r,x,h=>by
    have ih:=@qp env r x
    rw [Qk] at h
    cases hx:x==n with
    | true=>
      have e1:x=n:=by simpa using hx
      subst e1
      refine⟨(x,k),RG,rfl,?_⟩
      by_cases q:(k==QX&&env.scope.kind==.function&&env.kindOf x==some .cell)=true
      · simp only [QD,beq_iff_eq] at q;exact .inl q.1.1
      · simp only [q,SW,if_false,Qw,beq_self_eq_true,Sk] at h
        exact h.symm
    | false=>
      have e2:∀(l:List (Str × QR)),((if (k==QX&&env.scope.kind==.function&&env.kindOf n==some .cell)=true then(n,Sx) else(n,k))::l).lookup x=l.lookup x:=fun l=>by
        split<;>simp [Qw,hx]
      simp only [e2] at h
      obtain⟨y,hy,z⟩:=ih h
      exact⟨y,QV _ hy,z⟩
theorem Dc{M:Model}{A:PP}{E:MG→PB→Prop}{s:PB}{scope:Qm}{globals:xM}{closure:List (Str × xM)}{qual:Str}{func:Option xM}{code:MG}{env:Env}{builtins:xM}{Q:Env→PB→Prop}
    (hQ:∀h',h'.Ns s.heap.objs.size (fun _=>none)→(∀b o,s.heap.get? b=some o→h'.get? b=some o)→
      (∀n c,(Qo (s.heap.objs.size+1) scope.names []).lookup n=some c→h'.IsCell c none∧s.heap.objs.size+1≤c)→((Qo (s.heap.objs.size+1) scope.names []).Pairwise fun x y=>x.2≠y.2)→
      Q (newEnv scope s.heap.objs.size globals (Qo (s.heap.objs.size+1) scope.names closure) qual func code (some env) builtins) {s with heap:=h'}):
    PM M A (newFunctionEnv scope globals closure [] qual func code (some env) builtins) Q E s:=by
  simp only [newFunctionEnv,Option.isSome_some,if_true]
  refine PR (wpAny_alloc ?_)
  refine PR (wpAny_layCells _ (fun name kind cells=>by cases hkc:kind==Sx<;>simp [hkc]) _ _ _ _ ?_)
  have ok:=cellsFrom_ok scope.names (s.heap.push {cls:=.type "dict",data:=.dict #[]}) (s.heap.objs.size+1) [] ⟨fun _ _ hm=>(nomatch hm),List.Pairwise.nil⟩ (by rw [Ta];exact Qc _)
  rw [Ta] at ok
  rw [show({s with heap:=s.heap.push {cls:=.type "dict",data:=.dict #[]}}:PB).heap.objs.size=s.heap.objs.size+1 from Ta ..]
  refine PR ?_
  rw [List.forIn_nil]
  refine Qa (Qa ?_)
  exact hQ _ ((Heap.Ns.new s.heap (.type "dict")).keeps (pushCells_keeps _ _)) (fun b o e=>pushCells_keeps _ _ b o (Qs _ e)) (fun n c e=>ok.empty n c (mem_of_lookup e)) ok.apart
def bz(X:Cx)(scope:Qm)(cp:List (Nat × Str))(tgN:List Str)(C:xM)(s0:PB)(H0:Hp)(fp:List xM):Cx where
  prog:=X.prog
  w:=X.w
  K:=X.K
  mg:=X.mg
  base:=X.base
  A:=X.A
  N:=cp.map (·.2)++tgN
  s₀:=s0
  H₀:=H0
  env:=compEnvC scope (Qo (C+1) scope.names (jx X.env scope.names [])) C X.env
  outer:=X.stack
  stack:=X.stack
  ex:=fp
  fn:=fun x=>scope.names.lookup x==some .local || scope.names.lookup x==some .cell
  calm:=X.calm
  pn:=[]
  xe:=fun _ _=>False
theorem yZ{X:Cx}{scope:Qm}{sc0:Qm}{N0:List Str}{cp:List (Nat × Str)}{tgN:List Str}{pins:List (xM × Obj)}{σ:L2.St}{H3:Hp}{s₃:PB}{C:xM}{h₁:PL}{fp:List xM}(hsc:X.env.scope=sc0)(hN0:X.N=N0)
    (hk:scope.kind=.function)(hown:∀y∈scope.names,y.2=.cell→scope.names.lookup y.1=some .cell)
    (hfr:∀y∈scope.names,y.2=.free→scope.names.lookup y.1=some .free∧sc0.names.lookup y.1=some .cell)
    (hcp:∀p∈cp,N0[p.1]?=some p.2)(hcq:∀p∈cp,sc0.names.lookup p.2=some .cell∧scope.names.lookup p.2=some .free)
    (I3:aN X pins σ H3 s₃)(f3:∀b∈fp,pE X pins H3 b)(hob:∀b∈fp,∃o,s₃.heap.get? b=some o)(hC:s₃.heap.objs.size=C)(hns₁:h₁.Ns C (fun _=>none))(old:∀b o,s₃.heap.get? b=some o→h₁.get? b=some o)
    (hownC:∀n c,(Qo (C+1) scope.names []).lookup n=some c→h₁.IsCell c none∧C+1≤c)(apC:(Qo (C+1) scope.names []).Pairwise fun x y=>x.2≠y.2):
    (bz X scope cp tgN C s₃ H3 fp).Ok∧aN (bz X scope cp tgN C s₃ H3 fp) [] (jP cp tgN.length σ) H3 {s₃ with heap:=h₁}:=by
  have hkind:∀x,X.env.kindOf x=sc0.names.lookup x:=fun x=>by unfold Env.kindOf;rw [hsc]
  have hfree:∀y∈scope.names,y.2=.free→∃c,X.env.cells.lookup y.1=some c:=fun y hy e=>I3.ok.has y.1 (.inl (by rw [hkind];exact(hfr y hy e).2))
  have nC:∀b o,s₃.heap.get? b=some o→b≠C:=fun b o e=>by rw [←hC];exact QH (Qg e)
  have hHC:H3 C=none:=I3.hok.fresh (by rw [hC];exact Qc _)
  have clS:∀x c,(jx X.env scope.names []).lookup x=some c→X.env.cells.lookup x=some c:=fun x c e=>pK _ _ x c hfree (fun _ _ z=>by simp at z) e
  have clH:∀x,(∃y∈scope.names,y.1=x∧y.2=.free)→∃c,(jx X.env scope.names []).lookup x=some c:=fun x e=>uR _ _ x (.inl e)
  have clN:∀x,(¬∃y∈scope.names,y.1=x∧y.2=.free)→(jx X.env scope.names []).lookup x=none:=fun x q=>rO _ _ x q rfl
  have two:∀x c,(Qo (C+1) scope.names (jx X.env scope.names [])).lookup x=some c→(Qo (C+1) scope.names []).lookup x=some c∨(jx X.env scope.names []).lookup x=some c:=fun x c e=>by
    rw [bV,Tn] at e
    cases q:(Qo (C+1) scope.names []).lookup x with
    | some d=>rw [q] at e;exact .inl e
    | none=>rw [q] at e;exact .inr e
  have ltC:∀x c,(jx X.env scope.names []).lookup x=some c→c < C:=fun x c e=>by
    obtain⟨v,o,ho,_⟩:=I3.cell x c (clS x c e)
    rw [←hC];exact Qg ho
  have clF:∀x,(∃y∈scope.names,y.1=x∧y.2=.free)→(Qo (C+1) scope.names (jx X.env scope.names [])).lookup x=(jx X.env scope.names []).lookup x:=fun x ⟨y,hy,e1,e2⟩=>by
    rw [bV,Tn]
    cases q:(Qo (C+1) scope.names []).lookup x with
    | none=>rfl
    | some d=>
      exfalso
      obtain⟨z,hz,z1,z2⟩:=jw scope.names _ x d q
      have a1:=hown z hz z2
      have a2:=(hfr y hy e2).1
      rw [z1] at a1;rw [e1,a1] at a2;cases a2
  have hasC:∀x,(∃y∈scope.names,y.1=x∧(y.2=.free∨y.2=.cell))→∃c,(Qo (C+1) scope.names (jx X.env scope.names [])).lookup x=some c:=fun x ⟨y,hy,e1,e2⟩=>by
    rcases e2 with e2 | e2
    · rw [clF x ⟨y,hy,e1,e2⟩];exact clH x ⟨y,hy,e1,e2⟩
    · rw [bV,Tn]
      obtain⟨c,hc⟩:=iT scope.names (C+1) x ⟨y,hy,e1,e2⟩
      exact⟨c,by rw [hc];rfl⟩
  have ok':(bz X scope cp tgN C s₃ H3 fp).Ok:=by
    refine⟨I3.ok.mod,hk,I3.ok.glob,I3.ok.blt,by rw [←hC];exact Qc _,fun x y c e1 e2=>?_,fun x e=>hasC x (qp e),fun x c e1 e2=>?_,I3.ok.hd,I3.ok.frames,.inl rfl,fun b hb=>?_,fun b o e=>I3.bs b o e,?_,fun b o e hb=>?_,fun b hb z=>?_,I3.stack,fun b hb=>I3.stkFree b hb⟩
    · rcases two x c e1 with e1 | e1<;>rcases two y c e2 with e2 | e2
      · exact name_of_addr apC (mem_of_lookup e1) (mem_of_lookup e2)
      · exact(RU _ (Nat.lt_trans (ltC y c e2) (hownC x c e1).2)).elim
      · exact(RU _ (Nat.lt_trans (ltC x c e1) (hownC y c e2).2)).elim
      · exact I3.ok.inj x y c (clS _ _ e1) (clS _ _ e2)
    · rcases two x c e2 with e2 | e2
      · show s₃.heap.objs.size≤c
        rw [hC];exact Nat.le_of_succ_le (hownC x c e2).2
      · exfalso
        have e1':scope.names.lookup x=some .local∨scope.names.lookup x=some .cell:=by simpa [bz] using e1
        by_cases q:∃y∈scope.names,y.1=x∧y.2=.free
        · obtain⟨y,hy,y1,y2⟩:=q
          have z:=(hfr y hy y2).1
          rw [y1] at z
          rcases e1' with w | w<;>(rw [z] at w;cases w)
        · rw [clN x q] at e2;cases e2
    · obtain⟨f0,f1,f4,f5,f6,f7⟩:=f3 b hb
      obtain⟨o,ho⟩:=hob b hb
      exact⟨nC b o ho,fun x c e=>(two x c e).elim (fun e z=>absurd (hownC x c e).2 (by rw [z,←hC];exact Nat.not_le.mpr (Nat.lt_succ_of_lt (Qg ho)))) (fun e=>f6 x c (clS x c e))⟩
    · exact Qq I3.ok.bsz I3.sz
    · obtain⟨f0,f1,f4,f5,f6,f7⟩:=f3 b hb
      rcases f5 with z | z
      · exact I3.ok.noex b o e z
      · have:=(I3.ok.bs b o e).1
        exact absurd (QG (Qg this) z) (RU _)
    · obtain⟨f0,f1,f4,f5,f6,f7⟩:=f3 b hb
      rcases Px (I3.stkSub b z) with z | z
      · exact f1 z
      · exact f4 z
  have I4:aN (bz X scope cp tgN C s₃ H3 fp) [] (jP cp tgN.length σ) H3 {s₃ with heap:=h₁}:=by
    refine⟨ok',rfl,I3.bare,Un.kept old,⟨_,hns₁,fun i x v e1 e2 e3=>?_⟩,fun x c e=>?_,hHC,fun x c e=>(two x c e).elim (fun e=>I3.hok.fresh (by rw [hC];exact Nat.le_of_succ_le (hownC x c e).2)) (fun e=>I3.freeC x c (clS x c e)),fun p hp=>by simp [bz] at hp,I3.hok.kept old,by simp [jP,bz]⟩
    · have hlt:i < cp.length:=by
        by_cases q:i < cp.length
        · exact q
        · exfalso
          unfold jP at e2
          rw [List.getElem?_append_right (by simp;lia)] at e2
          rw [Uq] at e2
          split at e2<;>cases e2
      have e1':(cp.map (·.2))[i]?=some x:=by
        have e1'':(cp.map (·.2)++tgN)[i]?=some x:=e1
        rwa [RC (by simp;exact hlt)] at e1''
      have e2':(cp.map (fun p=>(σ[p.1]?).join))[i]?=some (some v):=by
        unfold jP at e2
        rwa [RC (by simp;exact hlt)] at e2
      rw [Qu,Rk hlt] at e1' e2'
      have ex:(cp[i]).2=x:=by simpa using e1'
      have ev:(σ[(cp[i]).1]?).join=some v:=by simpa using e2'
      have ev':σ[(cp[i]).1]?=some (some v):=by
        cases q:σ[(cp[i]).1]? with
        | none=>rw [q] at ev;cases ev
        | some z=>rw [q] at ev;simp only [Option.join_some] at ev;rw [ev]
      have hN:=hcp cp[i] (Th hlt)
      rw [←hN0] at hN
      obtain⟨hcl,hcf⟩:=hcq cp[i] (Th hlt)
      rw [ex] at hN hcl hcf
      obtain⟨m,hn,hl⟩:=I3.loc
      obtain⟨u,r,l⟩:=hl _ x v hN ev' (.inr (.inl (by rw [hsc];exact hcl)))
      refine⟨u,r,.inr ?_⟩
      rcases l with ⟨k1,_⟩ | ⟨k1,c,hcc,o,ho,hd⟩
      · rw [hkind,hcl] at k1;cases k1
      · have e3':(relabel scope X.env).names.lookup x=some .local∨(relabel scope X.env).names.lookup x=some .cell∨(relabel scope X.env).names.lookup x=some .free:=e3
        have nl:(relabel scope X.env).names.lookup x=some .cell∨(relabel scope X.env).names.lookup x=some .free:=by
          rcases e3' with z | z | z
          · exact absurd z (jV hcf)
          · exact .inl z
          · exact .inr z
        have fr:∃y∈scope.names,y.1=x∧y.2=.free:=⟨(x,.free),mem_of_lookup hcf,rfl,rfl⟩
        obtain⟨c',hc'⟩:=clH x fr
        have:=clS x c' hc'
        rw [hcc] at this;cases this
        exact⟨nl,c,(clF x fr).trans hc',o,old c o ho,hd⟩
    · rcases two x c e with e | e
      · exact⟨none,(hownC x c e).1⟩
      · obtain⟨v,o,ho,hd⟩:=I3.cell x c (clS x c e)
        exact⟨v,o,old c o ho,hd⟩
  exact⟨ok',I4⟩
theorem y4{X:Cx}{scope:Qm}{cp:List (Nat × Str)}{tgN:List Str}{pins:List (xM × Obj)}{σ σ5:L2.St}{H3 H5:Hp}{s₃ s6:PB}{C:xM}{fp:List xM}(I3:aN X pins σ H3 s₃)(f3:∀b∈fp,pE X pins H3 b)(nC:∀b o,s₃.heap.get? b=some o→b≠C)
    (I6:aN (bz X scope cp tgN C s₃ H3 fp) [] σ5 H5 s6)(h':PL)(sb:SJ C s6.heap h'):aN X pins σ H5 {s6 with heap:=h'}:=by
  have ub:=I6.base
  have kp:∀b u,b≠C→s6.heap.get? b=some u→h'.get? b=some u:=fun b u ne e=>sb.extBut b u ne e
  have nit:∀b u,H5 b=some u→b≠C:=fun b u e z=>by
    have:=I6.free
    rw [z] at e
    rw [show H5 C=none from this] at e;cases e
  refine I3.call' (s':={s6 with heap:=h'}) (ch:=fp) I6.os ⟨fun b o e n hb hx=>kp b o (nC b o e) (ub.keep b o e n hb hx),fun b o e n hb hx=>?_,ub.free,fun b o e hx=>?_,ub.tups,ub.frzs,ub.tbls⟩ (fun b u e=>?_) I6.bare (fun b hb=>?_)
  · obtain⟨sl,q⟩:=ub.slot b o e n hb hx
    exact⟨sl,kp b _ (nC b o e) q⟩
  · obtain⟨o',q⟩:=ub.there b o e hx
    exact⟨o',kp b _ (nC b o e) q⟩
  · refine(I6.hok b u e).stay (fun c v hc q=>kp c v ?_ q) (fun _ q=>q) fun _ _ q=>q
    rcases hc with z | z
    · rw [z];exact nit b u e
    · exact nit c _ z
  · obtain⟨f0,f1,f4,f5,f6,f7⟩:=f3 b hb
    exact⟨f5,f1,f6,f7⟩
theorem z9{X:Cx}{use:Option (MG→Sem Unit)}{RR:MG→PB→Prop}{pins:List (xM × Obj)}{s:PB}{σ:L2.St}{H:Hp}{Q:VK}{elt iter tg:PH}{ifs:List PH}{scope:Qm}{pos:Pos}{wi:TI}{g:TG}{tc:TT}{te:TE}(sc0:Qm)(N0:List Str)(cp:List (Nat × Str))(tgN:List Str)
    (hc:X.calm=true)(hsc:X.env.scope=sc0)(hN0:X.N=N0)(hi:PI X tg iter wi)
    (hg:∀C s0 H0 fp,PG (bz X scope cp tgN C s0 H0 fp) tg g)
    (ht:∀C s0 H0 fp,Cg (bz X scope cp tgN C s0 H0 fp) ifs tc)
    (he:∀C s0 H0 fp,PE (bz X scope cp tgN C s0 H0 fp) elt te)
    (hk:scope.kind=.function)(hown:∀y∈scope.names,y.2=.cell→scope.names.lookup y.1=some .cell)(hnames:∀y∈scope.names,y.2=.local→scope.names.lookup y.1=some .local)
    (hfr:∀y∈scope.names,y.2=.free→scope.names.lookup y.1=some .free∧sc0.names.lookup y.1=some .cell)
    (hcp:∀p∈cp,N0[p.1]?=some p.2)(hcq:∀p∈cp,sc0.names.lookup p.2=some .cell∧scope.names.lookup p.2=some .free)
    (hs:∀x,SN iter X.env x=pure x)(I:aN X pins σ H s)(h:B1 cp tgN.length wi g tc te σ H Q)
    (fin:∀(C D:xM) (H5:Hp) (s6:PB),(∃m,s6.heap.Ns C m)→Q (.ref D) H5→pE X pins H5 C→(∀h',SJ C s6.heap h'→aN X pins σ H5 {s6 with heap:=h'})→compPost (PQ X.prog X.w) X.A X.xe use RR (.ref D) C (.ok .next) s6):
    PM (PQ X.prog X.w) X.A (comprehension (.ListComp elt [⟨tg,iter,ifs,0⟩] scope pos) scope X.env (firstIterPos [⟨tg,iter,ifs,0⟩] pos) (newList []) (firstAsync [⟨tg,iter,ifs,0⟩]) (firstIter [⟨tg,iter,ifs,0⟩] X.env) use) RR X.xe s:=by
  have hkind:∀x,X.env.kindOf x=sc0.names.lookup x:=fun x=>by unfold Env.kindOf;rw [hsc]
  have hfree:∀y∈scope.names,y.2=.free→∃c,X.env.cells.lookup y.1=some c:=fun y hy e=>I.ok.has y.1 (.inl (by rw [hkind];exact(hfr y hy e).2))
  refine wpAny_comprehension_free (use:=use) rfl hs (wH hfree) hk hnames (Re (hi pins s σ H _ I h.go) (fun xv s₁ h₁=>Re h₁ (fun itv s₂ h₂=>?_) fun _ _ e=>e) fun _ _ e=>e)
  obtain⟨it,fp,tn,J,H2,rfl,I2,T,st2,f2,hq⟩:=h₂
  refine Sn ?_
  have hlF:H2 s₂.heap.objs.size=none:=I2.hok.fresh (Qc _)
  have I3:aN X pins σ (cy H2 s₂.heap.objs.size (.lst [])) {s₂ with heap:=s₂.heap.push {cls:=.type "list",data:=.seq ([]:List MG).toArray}}:=I2.lnew (t':=s₂.toks) .nil (Sb _)
  obtain⟨W,⟨m0,w0⟩,turn⟩:=hq _ hlF
  have f3:∀b∈fp,pE X pins (cy H2 s₂.heap.objs.size (.lst [])) b:=fun b hb=>by
    obtain⟨f0,fr⟩:=f2 b hb
    obtain⟨o,ho,_⟩:=T.obj _ _ st2 b hb
    exact⟨by rw [aY (QH (Qg ho))];exact f0,fr⟩
  have st3:tn 0 (s₂.heap.push {cls:=.type "list",data:=.seq ([]:List MG).toArray}):=T.keep _ _ _ st2 fun b _ o e=>Qs _ e
  generalize hD:s₂.heap.objs.size=D at*
  generalize hs3:({s₂ with heap:=s₂.heap.push {cls:=.type "list",data:=.seq ([]:List MG).toArray}}:PB)=s₃ at*
  have hst3:tn 0 s₃.heap:=by rw [←hs3];exact st3
  refine Dc (fun h₁ hns₁ old hownC apC=>?_)
  generalize hC:s₃.heap.objs.size=C at*
  have nC:∀b o,s₃.heap.get? b=some o→b≠C:=fun b o e=>by rw [←hC];exact QH (Qg e)
  obtain⟨ok',I4⟩:=yZ (cp:=cp) (tgN:=tgN) hsc hN0 hk hown hfr hcp hcq I3 f3 (fun b hb=>let ⟨o,e,_⟩:=T.obj _ _ hst3 b hb;⟨o,e⟩) hC hns₁ old hownC apC
  have hst4:tn 0 h₁:=T.keep _ _ _ hst3 fun b _ o e=>old b o e
  have loop:codeAny (PQ X.prog X.w) X.A (.compLoop (.ListComp elt [⟨tg,iter,ifs,0⟩] scope pos) 0 (.ref it) (.ref D) (compEnvC scope (Qo (C+1) scope.names (jx X.env scope.names [])) C X.env))
      (compPost (PQ X.prog X.w) X.A X.xe use RR (.ref D) C) {s₃ with heap:=h₁}:=by
    refine tJ (fun n s'=>∃i σ' H',aN (bz X scope cp tgN C s₃ (cy H2 D (.lst [])) fp) [] σ' H' s'∧tn i s'.heap∧(∀b∈fp,H' b=none)∧W i n σ' H') ?_ (n0:=m0) ⟨0,_,_,I4,hst4,fun b hb=>(f3 b hb).1,w0⟩
    rintro n s5 ⟨i,σ5,H5,I5,st5,fr5,w5⟩
    have stat:∀{H':Hp},(∀b∈fp,H' b=none)→∀b∈fp,pE (bz X scope cp tgN C s₃ (cy H2 D (.lst [])) fp) [] H' b:=fun hn b hb=>
      ⟨hn b hb,(ok'.exf b hb).1,ok'.exfs b hb,.inl hb,(ok'.exf b hb).2,fun p hp=>by simp [bz] at hp⟩
    rcases turn i n σ5 H5 w5 with ⟨stop,qn⟩ | ⟨go,N,hN,step⟩
    · refine cZ (T.done (bz X scope cp tgN C s₃ (cy H2 D (.lst [])) fp) rfl rfl rfl hc i [] s5 σ5 H5 (fun _ _=>False) I5 (stat fr5) st5 stop) fun r s6 ⟨hr,I6⟩=>?_
      subst hr
      refine⟨fun _=>?_,fun v z=>by cases z⟩
      obtain⟨m,hn,_⟩:=I6.loc
      exact fin C D H5 s6 ⟨m,hn⟩ qn (I3.fpOk (by rw [hC];exact Qc _) I6.free) (y4 I3 f3 nC I6)
    · refine cZ (T.item (bz X scope cp tgN C s₃ (cy H2 D (.lst [])) fp) rfl rfl rfl hc i [] s5 σ5 H5 (fun _ _=>False) I5 (stat fr5) st5 go) fun r s6 ⟨u,hr,h6⟩=>?_
      subst hr
      refine⟨fun z=>(by cases z),fun v z=>?_⟩
      cases z
      refine cZ h6 fun _ s7 ⟨x,H7,I7,r7,y7,st7,fr7⟩=>?_
      have I7':=I7.pinned (stat fr7) (T.obj _ _ st7)
      have again:∀{σ8:L2.St} {H8:Hp} {s8:PB},aN (bz X scope cp tgN C s₃ (cy H2 D (.lst [])) fp) ([]++qi fp s7.heap) σ8 H8 s8→N σ8 H8→∃m,m < n∧∃i σ' H',aN (bz X scope cp tgN C s₃ (cy H2 D (.lst [])) fp) [] σ' H' s8∧tn i s8.heap∧(∀b∈fp,H' b=none)∧W i m σ' H':=fun{σ8 H8 s8} I8 n8=>by
        obtain⟨m',hm,w8⟩:=hN σ8 H8 n8
        refine⟨m',hm,i+1,σ8,H8,I8.unpinned,T.keep _ _ _ st7 fun b hb o e=>(I8.pin (b,o) (RI _ (RI _ (jJ hb e)))).1,fun b hb=>?_,w8⟩
        obtain⟨o,e,d⟩:=T.obj _ _ st7 b hb
        exact(I8.pin (b,o) (RI _ (RI _ (jJ hb e)))).2.1
      refine cZ (hg C s₃ (cy H2 D (.lst [])) fp _ s7 σ5 H7 x u _ I7' r7 (step x H7 y7)) fun _ s8 ⟨σ8,H8,I8,q8⟩=>?_
      refine cZ (ht C s₃ (cy H2 D (.lst [])) fp _ s8 σ8 H8 _ I8 q8) fun ok s9 ⟨H9,I9,q9⟩=>?_
      cases ok with
      | false=>
        rw [if_neg Sr] at q9 ⊢
        exact again I9 q9
      | true=>
        rw [if_pos rfl] at q9 ⊢
        refine cZ (he C s₃ (cy H2 D (.lst [])) fp _ s9 σ8 H9 _ I9 q9) fun v s10 ⟨xv,H10,I10,r10,ys,hl,hz,n10⟩=>?_
        refine cZ (sj _ s10 σ8 H10 (.ref D) [xv] (.ref D) [v] (fun _ H=>N σ8 H) I10 rfl (.cons r10 .nil) ⟨D,ys,xv,rfl,rfl,hl,hz,n10⟩) fun _ s11 ⟨_,H11,I11,_,q11⟩=>?_
        exact again I11 q11
  exact codeAny_compStart_list loop (T.self X.A 0 _ _ _ hst4 loop)
theorem A9{X:Cx}{elt iter tg:PH}{ifs:List PH}{scope:Qm}{pos:Pos}{wi:TI}{g:TG}{tc:TT}{te:TE}(sc0:Qm)(N0:List Str)(cp:List (Nat × Str))(tgN:List Str)
    (hc:X.calm=true)(hsc:X.env.scope=sc0)(hN0:X.N=N0)(hi:PI X tg iter wi)
    (hg:∀C s0 H0 fp,PG (bz X scope cp tgN C s0 H0 fp) tg g)
    (ht:∀C s0 H0 fp,Cg (bz X scope cp tgN C s0 H0 fp) ifs tc)
    (he:∀C s0 H0 fp,PE (bz X scope cp tgN C s0 H0 fp) elt te)
    (hk:scope.kind=.function)(hown:∀y∈scope.names,y.2=.cell→scope.names.lookup y.1=some .cell)(hnames:∀y∈scope.names,y.2=.local→scope.names.lookup y.1=some .local)
    (hfr:∀y∈scope.names,y.2=.free→scope.names.lookup y.1=some .free∧sc0.names.lookup y.1=some .cell)
    (hcp:∀p∈cp,N0[p.1]?=some p.2)(hcq:∀p∈cp,sc0.names.lookup p.2=some .cell∧scope.names.lookup p.2=some .free)
    (hs:∀x,SN iter X.env x=pure x:=by intro _;rfl):
    PE X (.ListComp elt [⟨tg,iter,ifs,0⟩] scope pos) (B1 cp tgN.length wi g tc te):=by
  intro pins s σ H Q I h
  rw [eval_ListComp]
  exact z9 sc0 N0 cp tgN hc hsc hN0 hi hg ht he hk hown hnames hfr hcp hcq hs I h fun C D H5 s6 ⟨m,hn⟩ q _ key=>⟨m,hn,fun h' sb=>⟨.ref D,H5,key h' sb,rfl,q⟩⟩
def FJ(sc0 scope:Qm)(N0:List Str)(cp:List (Nat × Str))(W:List Nat):Bool:=
  (scope.names.all fun y=>(!(y.2==.local) || scope.names.lookup y.1==some .local)&&(!(y.2==.cell) || scope.names.lookup y.1==some .cell)&&(!(y.2==.free) || (scope.names.lookup y.1==some .free&&sc0.names.lookup y.1==some .cell)))&&
  (cp.all fun p=>N0[p.1]?==some p.2&&sc0.names.lookup p.2==some .cell&&scope.names.lookup p.2==some .free)&&decide ((cp.map (·.1)).Nodup)&&W.all fun j=>decide (cp.length≤j)
theorem CA{sc0 scope:Qm}{N0:List Str}{cp:List (Nat × Str)}{W:List Nat}(hch:FJ sc0 scope N0 cp W=true):
    (∀y∈scope.names,y.2=.cell→scope.names.lookup y.1=some .cell)∧(∀y∈scope.names,y.2=.local→scope.names.lookup y.1=some .local)∧
    (∀y∈scope.names,y.2=.free→scope.names.lookup y.1=some .free∧sc0.names.lookup y.1=some .cell)∧(∀p∈cp,N0[p.1]?=some p.2)∧(∀p∈cp,sc0.names.lookup p.2=some .cell∧scope.names.lookup p.2=some .free)∧
    (cp.map (·.1)).Nodup∧∀j∈W,cp.length≤j:=by
  simp only [FJ,QD,Qp,decide_eq_true_eq] at hch
  obtain⟨⟨⟨h1,h2⟩,h3⟩,h4⟩:=hch
  refine⟨fun y hy e=>?_,fun y hy e=>?_,fun y hy e=>?_,fun p hp=>?_,fun p hp=>?_,h3,h4⟩
  · have:=(h1 y hy).1.2;rw [e] at this;simpa using this
  · have:=(h1 y hy).1.1;rw [e] at this;simpa using this
  · have:=(h1 y hy).2;rw [e] at this;simpa using this
  · have:=(h2 p hp).1.1;simpa using this
  · have a:=(h2 p hp).1.2;have c:=(h2 p hp).2;exact⟨by simpa using a,by simpa using c⟩
theorem el{X:Cx}{K:PF}{pos:Pos}{elt iter tg:PH}{ifs:List PH}{scope:Qm}{fi:FI}{g:FG}{ft:FT}{fe:FE}{W:List Nat}(cp:List (Nat × Str))(tgN:List Str)
    (hKx:X.K=K)(hc:X.calm=true)(hi:PI X tg iter (fI K fi))
    (hg:∀C s0 H0 fp,PG (bz X scope cp tgN C s0 H0 fp) tg (fG K g W))
    (ht:∀C s0 H0 fp,Cg (bz X scope cp tgN C s0 H0 fp) ifs (fT K ft))
    (he:∀C s0 H0 fp,PE (bz X scope cp tgN C s0 H0 fp) elt (fE K fe))
    (hk:scope.kind=.function)(hch:FJ X.env.scope scope X.N cp W=true)
    (hs:∀x,SN iter X.env x=pure x):
    PE X (.ListComp elt [⟨tg,iter,ifs,0⟩] scope pos) (fE K (cf cp tgN.length fi g ft fe)):=by
  subst hKx
  obtain⟨h0,h1,h2,h3,h4,h5,h6⟩:=CA hch
  exact(A9 X.env.scope X.N cp tgN hc rfl rfl hi hg ht he hk h0 h1 h2 h3 h4 hs).mono fun _ _ _ h=>B_ h5 h6 h
open PySem PySem.Spec PyProof.Rows PySem.W
structure zQ (lt:Nat→Nat→Bool):Prop where
  irr:∀i,lt i i=false
  tr:∀{i j k},lt i j=false→lt j k=false→lt i k=false
  asy:∀{i j},lt i j=true→lt j i=false
abbrev gA(p:Array Nat)(i:Nat):Nat:=p.getD i 0
structure MH (n:Nat) (p:Array Nat):Prop where
  sz:p.size=n
  pm:p.Perm (List.toArray (QM n))
section
variable{lt:Nat→Nat→Bool}{n:Nat}(O:zQ lt)
include O
end
open PySem PySem.Spec PyProof.Rows PySem.W
section
variable{prog:PK}{w:PJ}{A:PP}{E:MG→PB→Prop}{s:PB}
end
open PySem PySem.Spec PyProof.Rows PySem.W
section
variable{X:Cx}{K:PF}
def KM(h:PL)(v:MG)(r:List Int):Prop:=∃(a:xM) (o:Obj) (xs:List MG) (n:Nat),v=.ref a∧h.get? a=some o∧o.cls=.type "tuple"∧o.data=.seq xs.toArray n∧RK xs r
end
open PySem PySem.Spec PyProof.Rows PySem.W PySem.SeqAt
open PySem.AutoSeq1 (wpAny_loadPart')
open MeetsSeq MeetsSeq2 MeetsSeq3 SeqRoads2
open PySem PySem.Spec PyProof.Rows PySem.W PySem.SeqAt
section
variable{A:PP}{s:PB}
end
inductive Cm
  | i (k:Int)
  | r (f:List Int)
  | rs (R:List (List Int))
section
variable{A:PP}{s:PB}
end
open PySem PySem.Spec PyProof.Rows PySem.W PySem.SeqAt
section
variable{X:Cx}{K:PF}
end
open PySem PySem.Spec PyProof.Rows PySem.W
section
variable{prog:PK}{w:PJ}{A:PP}{E:MG→PB→Prop}{s:PB}{κ:SortKind}{it:Array Keyed}{N:Nat}{lt:Nat→Nat→Bool}{st:SortSt}
end
open PySem PySem.Spec PyProof.Rows PySem.W
section
variable{lt:Nat→Nat→Bool}(O:zQ lt)
abbrev CZ(lt:Nat→Nat→Bool)(x y:Nat):Prop:=lt y x=false
include O
end
structure Fn (lt:Nat→Nat→Bool) (A B r:List Nat):Prop where
  pm:r.Perm (A++B)
  so:r.Pairwise (CZ lt)
structure Mg (lt:Nat→Nat→Bool) (A B o:List Nat) (ia ib:Nat):Prop where
  pm:o.Perm (A.take ia++B.take ib)
  so:o.Pairwise (CZ lt)
  la:∀x∈o,∀y∈A.drop ia,CZ lt x y
  lb:∀x∈o,∀y∈B.drop ib,CZ lt x y
section
variable{lt:Nat→Nat→Bool}{A B o:List Nat}{ia ib:Nat}
end
section
variable{it:Array Keyed}
end
open PySem PySem.Spec PyProof.Rows PySem.W
section
variable{prog:PK}{w:PJ}{A:PP}{E:MG→PB→Prop}{s:PB}{κ:SortKind}{it:Array Keyed}{N:Nat}{lt:Nat→Nat→Bool}{st:SortSt}{a b:Array Nat}
structure ML (lt:Nat→Nat→Bool) (a b:Array Nat) (o:List Nat) (ia ib:Nat):Prop where
  m:Mg lt a.toList b.toList o ia ib
  ha:ia+1 < a.size
  hb:ib < b.size
structure MP (N:Nat) (lt:Nat→Nat→Bool) (a b:Array Nat):Prop where
  o:zQ lt
  sa:a.toList.Pairwise (CZ lt)
  sb:b.toList.Pairwise (CZ lt)
  qa:∀j,j < a.size→gA a j < N
  qb:∀j,j < b.size→gA b j < N
  a0:0 < a.size
  b0:0 < b.size
  fst:lt (gA b 0) (gA a 0)=true
  lst:∀j,j < b.size→lt (gA b j) (gA a (a.size - 1))=true
end
open PySem PySem.Spec PyProof.Rows PySem.W
structure Hg (lt:Nat→Nat→Bool) (A B o:List Nat) (na nb:Nat):Prop where
  pm:o.Perm (A.drop na++B.drop nb)
  so:o.Pairwise fun x y=>CZ lt y x
  la:∀x∈o,∀y∈A.take na,CZ lt y x
  lb:∀x∈o,∀y∈B.take nb,CZ lt y x
section
variable{lt:Nat→Nat→Bool}{A B o:List Nat}{na nb:Nat}
end
section
variable{it:Array Keyed}
end
section
variable{prog:PK}{w:PJ}{A:PP}{E:MG→PB→Prop}{s:PB}{κ:SortKind}{it:Array Keyed}{N:Nat}{lt:Nat→Nat→Bool}{st:SortSt}{a b:Array Nat}
structure MI (lt:Nat→Nat→Bool) (a b:Array Nat) (o:List Nat) (na nb:Nat):Prop where
  m:Hg lt a.toList b.toList o na nb
  ha:0 < na
  hb:1 < nb
  la:na≤a.size
  lb:nb≤b.size
end
open PySem PySem.Spec PyProof.Rows PySem.W
section
variable{prog:PK}{w:PJ}{A:PP}{E:MG→PB→Prop}{s:PB}{κ:SortKind}{it:Array Keyed}{N:Nat}{lt:Nat→Nat→Bool}{st:SortSt}
end
open PySem PySem.Spec PyProof.Rows PySem.W
structure Ch (lo:Nat) (p p':Array Nat):Prop where
  sz:p'.size=p.size
  pm:p'.Perm p
  low:∀i,i < lo→gA p' i=gA p i
section
variable{lt:Nat→Nat→Bool}(O:zQ lt){p:Array Nat}{lo m:Nat}
include O
end
section
variable{prog:PK}{w:PJ}{A:PP}{E:MG→PB→Prop}{s:PB}{κ:SortKind}{it:Array Keyed}{N:Nat}{lt:Nat→Nat→Bool}{p:Array Nat}{pend:Array (Nat × Nat × Nat)}{g lo nrem:Nat}
end
open PySem PySem.Spec PyProof.Rows PySem.W
section
variable{prog:PK}{w:PJ}{A:PP}{E:MG→PB→Prop}{s:PB}{κ:SortKind}{it:Array Keyed}{N:Nat}{lt:Nat→Nat→Bool}{p:Array Nat}{pend:Array (Nat × Nat × Nat)}{g lo:Nat}
end
open PySem PySem.Spec PyProof.Rows PySem.W
section
variable{prog:PK}{w:PJ}{A:PP}{E:MG→PB→Prop}{s:PB}
end
section
variable{X:Cx}{K:PF}
end
open PySem PySem.Spec PyProof.Rows PySem.W
section
variable{X:Cx}{K:PF}
end
open PySem PySem.Spec PyProof.Rows PySem.W
section
variable{X:Cx}{K:PF}
end
section
variable{X:Cx}{K:PF}
variable{o a:PH}{es:List PH}{fo:FE}{fs:FA}{apos cpos:Pos}
end
section
variable{X:Cx}{K:PF}{σ σ2:L2.St}{H0 F H F2 H2 F3:Hp}{e e2:En}
end
section
variable{X:Cx}{K:PF}{a b:PH}{fa fb:FE}{pos p p1 p2 p3 pos':Pos}{x:Str}{i:Nat}
end
section
variable{X:Cx}{K:PF}
end
section
variable{prog:PK}{w:PJ}{A:PP}{R:Result→PB→Prop}
end
def Ef(l:xM)(wi:TI)(g:TG)(tc:TT)(tk tv:TE)(σ:L2.St)(H:Hp)(N:L2.St→Hp→Prop):Prop:=
  wi σ H fun J H1=>∃W:Nat→Nat→L2.St→Hp→Prop,(∃m,W 0 m σ H1)∧∀i m σ' H',W i m σ' H'→
    (J.stop i H'∧N σ' H')∨(J.go i H'∧∃N2:L2.St→Hp→Prop,(∀σ2 H2,N2 σ2 H2→∃m',m' < m∧W (i+1) m' σ2 H2)∧
      ∀x H2,J.yld i H' x H2→g x σ' H2 fun σ2 H3=>tc σ2 H3 fun b H4=>if b=true then tk σ2 H4 fun y H5=>tv σ2 H5 fun v H6=>∃(kk:j1) (kvs:List (j1 × V)),y=kV kk∧H6 l=some (.dK kvs)∧kvs.length < PY∧N2 σ2 (cy H6 l (.dK (Jw kvs kk v))) else N2 σ2 H4)
structure Ks (cp:List (Nat × Str)) (nT:Nat) (wi:TI) (g:TG) (tc:TT) (wi2:TI) (g2:TG) (tc2:TT) (tk tv:TE) (σ:L2.St) (H:Hp) (Q:VK):Prop where
  go:wi σ H fun J H1=>∀l,H1 l=none→
  ∃W:Nat→Nat→L2.St→Hp→Prop,(∃m,W 0 m (jP cp nT σ) (cy H1 l (.dK [])))∧∀i m σ' H',W i m σ' H'→
    (J.stop i H'∧Q (.ref l) H')∨(J.go i H'∧∃N:L2.St→Hp→Prop,(∀σ2 H2,N σ2 H2→∃m',m' < m∧W (i+1) m' σ2 H2)∧
      ∀x H2,J.yld i H' x H2→g x σ' H2 fun σ2 H3=>tc σ2 H3 fun b H4=>if b=true then Ef l wi2 g2 tc2 tk tv σ2 H4 N else N σ2 H4)
def aK(p:Int × ww):j1 × V:=(Sum.inl p.1,p.2.toV)
def aD(p:Int × ww):PD × PD:=(.int p.1,p.2.toD)
section
variable{K:PF}{F H F' H':Hp}{σ σ':L2.St}{e e':En}{nT:Nat}
inductive CD (K:PF) (W:List Nat) (σ0:L2.St) (F1 H1:Hp) (e0:En) (l:xM) (P:Hp→En→List (Int × ww)→Prop) (σ':L2.St) (H':Hp):Prop
  | mk {F':Hp} {ei:En} {acc:List (Int × ww)} (R:bj K F' H' σ' ei) (X:eB W σ0 F1 H1 e0 σ' F' H' ei) (fl:F' l=none) (hl:H' l=some (.dK (acc.map aK))) (pl:∀p∈acc,∀F,p.2.ok K F) (hc:P F' ei acc):CD K W σ0 F1 H1 e0 l P σ' H'
end
section
variable{X:Cx}{K:PF}{pos:Pos}
end
section
variable{K:PF}{F H F' H' F1 H1 F2 H2:Hp}{σ σ' σ1 σ2:L2.St}{e e' e1 e2:En}{i:Nat}{W W1 W2:List Nat}
theorem Fp.drop{j:Nat}{a:xM}(h:Fp σ (e.set i none) H j a):Fp σ e H j a:=by
  by_cases z:j=i
  · subst z
    rcases h with ⟨xs,h,_⟩ | ⟨xss,_,_,h,_⟩
    · rw [To] at h
      split at h
      · split at h<;>cases h
      · rename_i n;exact absurd rfl n
    · rw [To] at h
      split at h
      · split at h<;>cases h
      · rename_i n;exact absurd rfl n
  · unfold Fp at h ⊢
    rw [Ql (QN z)] at h
    exact h
theorem pS{j:Nat}{s:Sv}(h:(e.set i none)[j]?=some (some s)):e[j]?=some (some s):=by
  by_cases z:i=j
  · subst z
    rw [To] at h
    rw [if_pos rfl] at h
    split at h<;>cases h
  · rwa [Ql z] at h
theorem cj.drop{a:xM}(h:cj σ (e.set i none) H a):cj σ e H a:=let ⟨j,q⟩:=h;⟨j,q.drop⟩
theorem bj.drop(R:bj K F H σ e)(i:Nat):bj K F H σ (e.set i none):=⟨R.sm,by rw [Sf];exact R.len,fun j x h=>R.dat j x (pS h),fun j xs h=>R.own j xs (pS h),fun j xss h=>R.nst j xss (pS h),fun j k a h1 h2=>R.fp j k a h1.drop h2.drop⟩
structure KJ (K:PF) (i:Nat) (F H:Hp) (σ:L2.St) (e:En):Prop where
  rel:bj K F H σ (e.set i none)
  dct:∃(l:xM) (m:List (Int × ww)),e[i]?=some (some (.d (.dict (m.map aD))))∧σ[i]?=some (some (.ref l))∧F l=none∧H l=some (.dK (m.map aK))∧∀p∈m,∀F,p.2.ok K F
structure L3 (i:Nat) (W:List Nat) (σ:L2.St) (F H:Hp) (e:En) (σ':L2.St) (F' H':Hp) (e':En):Prop where
  sf:ax F F'
  dom:∀a,H' a=none→H a=none
  fr:∀a vs,F a=none→H a=some (.lst vs)→¬cj σ (e.set i none) H a→F' a=none
  lst:∀a vs,H a=some (.lst vs)→∃vs',H' a=some (.lst vs')
  tmp:∀a o,H a=some o→¬cj σ (e.set i none) H a→σ[i]?≠some (some (.ref a))→H' a=some o
  own:∀a,cj σ' (e'.set i none) H' a→cj σ (e.set i none) H a∨H a=none
  wr:∀j,j∉W→σ'[j]?=σ[j]?
  dd:σ'[i]?=σ[i]?
  fd:∀a (m:DI),F a=none→H a=some m.1→¬cj σ (e.set i none) H a→σ[i]?≠some (some (.ref a))→F' a=none
end
section
variable{X:Cx}{K:PF}{i:Nat}{W W1 W2:List Nat}{st:PN}{cH:List PN}{f g:FS}{ft:FT}{pos:Pos}
inductive Kw (K:PF) (i:Nat) (F1:Hp) (P:En→Prop) (G:L2.St→Hp→Hp→En→Prop) (σ:L2.St) (H:Hp):Prop
  | mk {F:Hp} {e:En} (R:KJ K i F H σ e) (sF:ax F1 F) (hf:P e) (q:G σ F H e):Kw K i F1 P G σ H
theorem my{H:Hp}{σ:L2.St}{e:En}{v:Option V}{j:Nat}{a:xM}:Fp (σ.set i v) (e.set i none) H j a↔ Fp σ (e.set i none) H j a:=by
  by_cases z:i=j
  · subst z
    have no:∀s:Sv,(e.set i none)[i]?≠some (some s):=fun s h=>by
      rw [To,if_pos rfl] at h
      split at h<;>cases h
    constructor
    · rintro(⟨xs,h,_⟩ | ⟨xss,_,_,h,_⟩)
      · exact absurd h (no _)
      · exact absurd h (no _)
    · rintro(⟨xs,h,_⟩ | ⟨xss,_,_,h,_⟩)
      · exact absurd h (no _)
      · exact absurd h (no _)
  · have e1:(σ.set i v)[j]?=σ[j]?:=Ql z
    unfold Fp
    rw [e1]
theorem bj.poke{F H:Hp}{σ:L2.St}{e:En}(R:bj K F H σ (e.set i none))(v:Option V):bj K F H (σ.set i v) (e.set i none):=by
  have ne:∀(j:Nat) (s:Sv),(e.set i none)[j]?=some (some s)→i≠j:=fun j s h z=>by
    subst z
    rw [To,if_pos rfl] at h
    split at h<;>cases h
  refine⟨R.sm,by rw [Sf];exact R.len,fun j x h=>?_,fun j xs h=>?_,fun j xss h=>?_,fun j k a h1 h2=>R.fp j k a (my.mp h1) (my.mp h2)⟩
  · rw [Ql (ne j _ h)];exact R.dat j x h
  · rw [Ql (ne j _ h)];exact R.own j xs h
  · rw [Ql (ne j _ h)];exact R.nst j xss h
end
section
variable{X:Cx}{C:xM}{x:Str}{p pos rp:Pos}{e:PH}{t:TA}
end
structure MB (P:PK) (w:PJ) (fs:List xM) (H H':Hp) (h b0:PL):Prop where
  keep:∀b o,h.get? b=some o→H b=none→b∉fs→b0.get? b=some o
  there:∀b o,h.get? b=some o→b∉fs→∃o',b0.get? b=some o'
  free:∀b o,h.get? b=some o→H b=none→H' b=none
  tups:∀b xs,H b=some (.tup xs)→H' b=some (.tup xs)
  frzs:∀b o u,H b=some (.frz o u)→H' b=some (.frz o u)
  tbls:∀b ps,H b=some (.tbl ps)→∃more,H' b=some (.tbl (ps++more))
  hok:oY P w H' b0
section
variable{P:PK}{w:PJ}{K:PF}{mg:Str→Option MG}{base:PL}{N:List Str}{qual:Str}{scope:Qm}{f:xM}{cd:MG}{A:PP}{outer:List Env}{s:PB}{H:Hp}{E:XK}{C:xM}{pins:List (xM × Obj)}{σ:L2.St}{H1:Hp}{s1:PB}
end
section
variable{X:Cx}{K:PF}{st r:PN}{cH:List PN}{c:PH}{pos:Pos}{f1:FS}{ft:FT}{W1:List Nat}{g:En→Prop}
end
open PySem PySem.Spec PyProof.Rows PySem.W
section
variable{prog:PK}{w:PJ}{A:PP}{E:MG→PB→Prop}{h:PL}{g:Array GenState}{d:Drawn}{t:Nat}{os:OsState}{a D:xM}{o:Obj}{K:Frag}
structure L1 (K:Frag) (D:xM):Prop where
  ga:findIn K (.ref D) "__getattribute__"=some (some (.builtin "BaseException.__getattribute__"))
  gt:findIn K (.ref D) "__getattr__"=some none
  cl:findIn K (.ref D) "__class__"=some (some (.builtin "object.__class__"))
  mo:mroIn K D (.type "object")=some true
  mb:mroIn K D (.type "BaseException")=some true
  cs:(clsIn K D).isSome=true
end
def K8(C a:xM)(h:PL):Prop:=∃o,h.get? a=some o∧o.cls=.ref C
def Mj(C a:xM):HO:=.ext (K8 C a)
section
variable{X:Cx}{pins:List (xM × Obj)}{σ:L2.St}{H H':Hp}{s:PB}{n:Str}{j:Nat}
end
section
variable{X:Cx}{C Cb f:xM}{fd:PZ}{ps:List Str}{k n k0 i j:Nat}{g:En→Prop}{fn B kx nx:Str}{p pos ep bp kp np ap hp tp:Pos}{e:PH}{es:List PH}{t:TA}
end
section
variable{X:Cx}{C:xM}{i:Nat}{x c:Str}{p p1 p2 pos:Pos}{v:V}{u:MG}{b:Bool}
def Ls(i:Nat)(C:xM)(b:Bool):TE:=fun σ H Q=>∃a,σ[i]?=some (some (.ref a))∧H a=some (Mj C a)∧Q (.bl b) H
end
abbrev t3(C:xM)(b1 b2 b3:Bool):TE:=J1 (oU (Ls 0 C b1) (oU (Ls 0 C b2) (oU (Ls 0 C b3) B3)))
section
variable{K:PF}
end
section
variable{X:Cx}{K:PF}{C:xM}{x:Str}{p pos rp:Pos}{e:PH}{fs:FA}
end
section
variable{P:PK}{w:PJ}{K:PF}{mg:Str→Option MG}{base:PL}{N ps:List Str}{qual fn:Str}{scope:Qm}{fa f:xM}{cd:MG}{A:PP}{outer:List Env}{s:PB}{H:Hp}{E:XK}{C:xM}{st:PN}{fd:PZ}{k n k0:Nat}{g:En→Prop}{p pos ep:Pos}{e:PH}{es:List PH}{fs:FA}
end
section
variable{X:Cx}{C:xM}{i:Nat}{x:Str}{p p1 p2 pos:Pos}{vs:List V}{us:List MG}{b:Bool}{cs:List PH}{ctx:Nat}
end
section
variable{K:PF}{σ:L2.St}{H:Hp}
end
section
variable{X:Cx}
end
abbrev KL(l:List Nat):Prop:=l.Pairwise (· < ·)
section
variable{prog:PK}{w:PJ}{A:PP}{E:MG→PB→Prop}{s:PB}
end
section
variable{prog:PK}{w:PJ}{A:PP}{E:MG→PB→Prop}{s:PB}
end
def Mu(t:SetTable):Nat→Nat
  | 0=>0
  | i+1=>t.place.getD i 0+1
inductive KQ (w:PJ) (a:xM) (es:Array (Int × MG)) (ep:Nat) (t:SetTable) (h:PL):List MG→xM→Nat→MG→Prop where
  | text (hb:w.params.followText "set-order"=true) (p:xM) (i:Nat) (hp:p=a):KQ w a es ep t h ((pickOrder (w.params.setOrder a ep) es).toList.map (·.2)) p i (rawInt 0)
  | led (hb:w.params.followText "set-order"=false) (hd:(!t.plain&&es.size > 1)=false) (hl:t.led=true) (hr:KL t.place.toList) (p:xM) (i:Nat) (hp:p=a):KQ w a es ep t h (es.toList.map (·.2)) p i (rawInt (Mu t i))
  | drawn (hb:w.params.followText "set-order"=false) (p:xM) (i:Nat) (ys:List Nat) (hy:ys.Perm (QM es.size)) (hp:IsTup h p (ys.map fun(i:Nat)=>rawInt i).toArray):KQ w a es ep t h (ys.filterMap fun i=>es[i]?.map (·.2)) p i (.ref p)
section
variable{prog:PK}{w:PJ}{A:PP}{E:MG→PB→Prop}{s:PB}
end
section
variable{prog:PK}{w:PJ}{A:PP}{E:MG→PB→Prop}{s:PB}{I a p:xM}{es:Array (Int × MG)}{ep:Nat}{t:SetTable}{L:List MG}{i:Nat}
end
section
variable{prog:PK}{w:PJ}{A:PP}{E:MG→PB→Prop}{s:PB}{a:xM}{es:Array (Int × MG)}{ep:Nat}{t:SetTable}
end
section
variable{prog:PK}{w:PJ}{A:PP}{E:MG→PB→Prop}{s:PB}
end
section
variable{prog:PK}{w:PJ}{A:PP}{E:MG→PB→Prop}{s:PB}
end
section
variable{X:Cx}{K:PF}{a:PH}{fa:FE}{pos p pos2 p2:Pos}
end
section
variable{X:Cx}{K:PF}{a b1 b2 b3:PH}{fa:FE}{fs:FA}{pos p pos2 p2:Pos}
end
section
variable{prog:PK}{w:PJ}{A:PP}{E:MG→PB→Prop}{s:PB}
end
section
variable{X:Cx}{K:PF}{b1 b2 b3:PH}{fs:FA}{pos p pos2 p2:Pos}
end
section
variable{X:Cx}{K:PF}{es:List PH}{k0:Nat}{tp:Pos}{a b:PH}{fs:FA}{p pos:Pos}
end
section
variable{X:Cx}{pins:List (xM × Obj)}{σ:L2.St}{H:Hp}{s:PB}
end
section
variable{prog:PK}{w:PJ}{A:PP}{E:MG→PB→Prop}{s:PB}
end
section
variable{X:Cx}{K:PF}{es:List PH}{k0:Nat}{tp:Pos}{a b:PH}{fs:FA}{p pos:Pos}
end
structure Ku (z TI TO i1 i2 i3 l1 l2 l3:xM):Prop where
  nO:TO≠z
  nz:i1≠z∧i2≠z∧i3≠z
  nT:TO≠i1∧TO≠i2∧TO≠i3
  ni:i1≠i2∧i1≠i3∧i2≠i3
  l:∀a,a=l1∨a=l2∨a=l3→a≠z∧a≠TO∧a≠i1∧a≠i2∧a≠i3
section
variable{prog:PK}{w:PJ}{A:PP}{E:MG→PB→Prop}{s:PB}{z TI TO i1 i2 i3 l1 l2 l3:xM}{k:Nat}{xs ys zs:Array MG}{a b c:MG}
end
section
variable{K:PF}{σ:L2.St}{F H:Hp}
end
section
variable{X:Cx}{K:PF}{es:List PH}{k0:Nat}{tp:Pos}{a b c:PH}{fs:FA}{p pos:Pos}
end
section
variable{X:Cx}{K:PF}{es:List PH}{k0:Nat}{tp:Pos}{a b:PH}{fs:FA}{p pos:Pos}
end
section
variable{X:Cx}{K:PF}{es:List PH}{k0:Nat}{tp:Pos}{a:PH}{ta:TA}{p pos:Pos}
end
section
variable{X:Cx}{K:PF}{es:List PH}{k0:Nat}{tp:Pos}{a:PH}{fs:FA}{p pos:Pos}
end
section
variable(P:PK)(w:PJ)
end
section
variable{P:PK}{w:PJ}{H H':Hp}{h h':PL}{a:xM}{o:HO}
end
section
variable{P:PK}{w:PJ}{H:Hp}{h h':PL}{x e:xM}{o':HO}
end
section
variable{fs fs' ex ex':List xM}{H H1 H2:Hp}{h h1 h2 h':PL}{a x e:xM}{o:HO}
end
section
variable{X:Cx}{pins:List (xM × Obj)}{σ:List (Option V)}{H H':Hp}{s:PB}{h':PL}
end
section
variable{X:Cx}
variable{a b:PH}{ta tb:TE}{pos:Pos}
variable{tA tB':TT}{cH:List PH}
end
section
variable{X:Cx}{pins:List (xM × Obj)}{σ:St}{H:Hp}{s:PB}{a:xM}{xs ys:List V}
end
section
variable{X:Cx}{pins:List (xM × Obj)}{σ:St}{H:Hp}{s:PB}{E:MG→PB→Prop}
end
section
variable{X:Cx}{st:PN}{cH:List PN}{t u:TS}{e:PH}{te:TE}{pos:Pos}
end
section
variable{X:Cx}{pos:Pos}
end
section
variable{X:Cx}{pos:Pos}
end
section
variable{X:Cx}{tg:PH}
end
section
variable{X:Cx}{a b c:PH}{ta tb tc:TE}{pos:Pos}
end
section
variable{X:Cx}{a b c:PH}{ta tb tc:TE}{pos:Pos}
end
section
variable{prog:PK}{w:PJ}{A:PP}{E:MG→PB→Prop}{s:PB}{K:PF}{x dx C f:xM}{mA:Str→Option MG}{name:Str}{v:MG}
end
section
variable{P:PK}{w:PJ}{H H':Hp}{h h':PL}{a C dx:xM}{fs fs':List (Str × V)}
end
section
variable{X:Cx}{pins:List (xM × Obj)}{σ:St}{H:Hp}{s:PB}{a C dx:xM}{fs:List (Str × V)}{f:Str}{v:V}{A:PP}{E:MG→PB→Prop}
end
section
variable{X:Cx}{o e value:PH}{f:Str}{pos pos' tpos:Pos}{ta tv:TE}
end
section
variable{X:Cx}{pins:List (xM × Obj)}{σ:St}{H:Hp}{s:PB}{A:PP}{E:MG→PB→Prop}{Q:MG→PB→Prop}{c:MG}{b:Bool}
end
section
variable{X:Cx}{e:PH}{es:List PH}{te:TE}{t:TA}{pos:Pos}
end
section
variable{X:Cx}{pins:List (xM × Obj)}{σ:St}{H:Hp}{s s':PB}
end
section
variable{X:Cx}{CX:uH}{k:Nat}{f C:xM}{fd:PZ}{ps:List Str}{sp:Sp}{dvs:List V}{ds:List MG}{E:XK}{x m:Str}{p pos apos:Pos}{e o:PH}{es:List PH}{ta:TE}{t:TA}
end
section
variable{X:Cx}{CX:uH}{k:Nat}{f C:xM}{fd:PZ}{ps ks:List Str}{sp:Sp}{E:XK}{x m:Str}{p pos apos kpos:Pos}{e o:PH}{es:List PH}{kws:List QQ}{te ta:TE}{t tk:TA}{nm:Option Str}
variable{g:List MG→List MG→List MG}{gV:List V→List V→List V}
end
section
variable{X:Cx}{x:Str}{p pos:Pos}{e:PH}{es:List PH}{t:TA}{id T:String}{r:List V→Hp→VK→Prop}
end
section
variable{κ:Type}[DecidableEq κ]
end
section
variable{P:PK}{w:PJ}{H:Hp}{h:PL}{a:xM}
end
section
variable{X:Cx}{pins:List (xM × Obj)}{σ:St}{H:Hp}{s:PB}{a:xM}{y v:V}{u r:MG}{o:Option V}{A:PP}{E:MG→PB→Prop}
end
section
variable{X:Cx}{pins:List (xM × Obj)}{σ:St}{H:Hp}{s:PB}{a:xM}{kvs:List (j1 × V)}{k:j1}{u:MG}{A:PP}{E:MG→PB→Prop}
end
section
variable{X:Cx}{o i e value:PH}{pos pos' tpos:Pos}{td ty tv:TE}
end
section
variable{X:Cx}{pos:Pos}
end
structure M2 (X:Cx) (o:PH) (m:Str) (apos:Pos) (e f:PH) (cpos:Pos):Prop where
  base:Rw o m X.env (PV o X.env)=PV o X.env
  few:((Qf cpos (PU [e,f] X.env)).all (fun x=> !x.1)&&(Rz cpos (RB [] X.env)).all (fun x=>x.1.isSome)
    &&decide (([e,f]:List PH).length+([]:List QQ).length+(if ([]:List QQ).isEmpty then 0 else 1) < 30))=true
  line:(apos.endLine==cpos.line)=true
  trees:Qf cpos (PU [e,f] X.env)=[(false,PV e X.env),(false,PV f X.env)]
section
variable{X:Cx}{pins:List (xM × Obj)}{σ:St}{H:Hp}{s:PB}{a:xM}{y d:V}{u r:MG}{o:Option V}{A:PP}{E:MG→PB→Prop}
end
section
variable{X:Cx}{o e f:PH}{apos cpos:Pos}{td ty tx:TE}
end
section
variable{X:Cx}{pins:List (xM × Obj)}{σ:St}{H:Hp}{s:PB}{a:xM}{kvs:List (j1 × V)}{A:PP}{E:MG→PB→Prop}
end
section
variable{X:Cx}{pins:List (xM × Obj)}{σ:St}{H:Hp}{s:PB}{a:xM}{y:V}{u:MG}{A:PP}{E:MG→PB→Prop}
end
end L2
namespace Att
open PySem PySem.W PySem.Calls PyProof.Rows
section
variable{prog:PK}{w:PJ}{A:PP}{E:MG→PB→Prop}{s:PB}{K:Frag}
end
end Att
namespace L2
open PySem PySem.Spec PyProof.Rows
section
variable{P:PK}{w:PJ}{K:PF}{mg:Str→Option MG}{base:PL}
end
section
variable{X:Cx}
end
section
variable{κ:Type}[DecidableEq κ]
end
section
variable{prog:PK}{w:PJ}{A:PP}{R:Result→PB→Prop}
end
structure Kr (cp:List (Nat × Str)) (nT:Nat) (wi:TI) (g:TG) (tk tv:TE) (σ:L2.St) (H:Hp) (Q:VK):Prop where
  go:wi σ H fun J H1=>∀l,H1 l=none→
  ∃W:Nat→Nat→L2.St→Hp→Prop,(∃m,W 0 m (jP cp nT σ) (cy H1 l (.dK [])))∧∀i m σ' H',W i m σ' H'→
    (J.stop i H'∧Q (.ref l) H')∨(J.go i H'∧∃N:L2.St→Hp→Prop,(∀σ2 H2,N σ2 H2→∃m',m' < m∧W (i+1) m' σ2 H2)∧
      ∀x H2,J.yld i H' x H2→g x σ' H2 fun σ2 H4=>tk σ2 H4 fun y H5=>tv σ2 H5 fun v H6=>∃(kk:j1) (kvs:List (j1 × V)),y=kV kk∧H6 l=some (.dK kvs)∧kvs.length < PY∧N σ2 (cy H6 l (.dK (Jw kvs kk v))))
abbrev Kj:=Int × Int × Int
def pD(p:Kj):PD × PD:=(.int p.1,.tuple [.int p.2.1,.int p.2.2])
section
variable{K:PF}{F H F' H':Hp}{σ σ':L2.St}{e e':En}{cp:List (Nat × Str)}{nT:Nat}
def Mh(m:List (Int × ww))(acc:List Kj):Prop:=m.map aD=acc.map pD
inductive LZ (K:PF) (W:List Nat) (σ0:L2.St) (F1 H1:Hp) (e0:En) (l:xM) (P:Hp→En→List Kj→Prop) (σ':L2.St) (H':Hp):Prop
  | mk {F':Hp} {ei:En} {acc:List Kj} {m:List (Int × ww)} (R:bj K F' H' σ' ei) (X:eB W σ0 F1 H1 e0 σ' F' H' ei) (fl:F' l=none) (hl:H' l=some (.dK (m.map aK))) (ok:∀p∈m,p.2.ok K F') (ha:Mh m acc) (hc:P F' ei acc):LZ K W σ0 F1 H1 e0 l P σ' H'
end
section
variable{X:Cx}{K:PF}{pos:Pos}
end
section
variable{X:Cx}{K:PF}{pos:Pos}
end
section
variable{X:Cx}{K:PF}{g:En→Prop}{x:Str}{e a:PH}{es:List PH}{p pos:Pos}{T:String}
end
section
variable{P:PK}{w:PJ}{K:PF}{mg:Str→Option MG}{base:PL}{N ps:List Str}{qual fn:Str}{scope:Qm}{fa f:xM}{cd:MG}{A:PP}{outer:List Env}{s:PB}{H:Hp}{E:XK}{C:xM}{st:PN}{fd:PZ}{k n k0:Nat}{g:En→Prop}{p pos:Pos}{e:PH}{es:List PH}{fs:FA}
end
section
variable{X:Cx}{K:PF}{σ:L2.St}{F H:Hp}{e e':En}
end
def sm(f:Nat→Int):Nat→Int
  | 0=>0
  | n+1=>sm f n+f n
theorem vQ{f g:Nat→Int}:∀{n:Nat},(∀j,j < n→f j=g j)→sm f n=sm g n
  | 0,_=>rfl
  | n+1,h=>by rw [sm,sm,vQ (n:=n) fun j hj=>h j (by lia),h n (by lia)]
theorem yJ{f:Nat→Int}{n:Nat}(h:∀j,j < n→f j=0):sm f n=0:=by
  induction n with
  | zero=>rfl
  | succ n ih=>rw [sm,ih fun j hj=>h j (by lia),h n (by lia)];rfl
theorem Fd{f:Nat→Int}{p:Nat}:∀{n:Nat},p < n→sm f n=f p+sm (fun j=>if j=p then 0 else f j) n
  | 0,h=>by lia
  | n+1,h=>by
    rw [sm,sm]
    by_cases e:n=p
    · subst e
      rw [if_pos rfl,vQ (f:=fun j=>if j=n then 0 else f j) (g:=f) fun j hj=>if_neg (by lia)]
      lia
    · rw [if_neg e,Fd (n:=n) (p:=p) (by lia)];lia
theorem BZ{f:Nat→Int}{p n:Nat}(hp:p < n)(h:∀j,j < n→j≠p→f j=0):sm f n=f p:=by
  rw [Fd hp,yJ fun j hj=>by by_cases e:j=p<;>simp [e];exact h j hj e];lia
def sg:Nat→Int
  | 0=>1
  | n+1=> - sg n
def sk(j a:Nat):Nat:=if a < j then a else a+1
def det:Nat→(Nat→Nat→Int)→Int
  | 0,_=>1
  | k+1,c=>sm (fun j=>sg j*c j 0*det k (fun a i=>c (sk j a) (i+1))) (k+1)
def pu(c:Nat→Nat→Int)(p:Nat)(v:Nat→Int):Nat→Nat→Int:=fun a=>if a=p then v else c a
def sq(f:Nat→Rat):Nat→Rat
  | 0=>0
  | n+1=>sq f n+f n
theorem qL{f g:Nat→Rat}:∀{n:Nat},(∀j,j < n→f j=g j)→sq f n=sq g n
  | 0,_=>rfl
  | n+1,h=>by rw [sq,sq,qL (n:=n) fun j hj=>h j (by lia),h n (by lia)]
structure Tb where
  T:Nat→Nat→Int
  d:Int
  out:Nat→Nat
  win:Nat→Nat
def Mt(s:Tb)(r c:Nat):Tb where
  T:=fun i j=>if i=r then(if j=c then s.d else s.T r j) else if j=c then - s.T i c else(s.T i j*s.T r c - s.T i c*s.T r j) / s.d
  d:=s.T r c
  out:=fun j=>if j=c then s.win r else s.out j
  win:=fun k=>if k=r then s.out c else s.win k
section
variable(n m:Nat)(C:Nat→Nat→Int)
def KH(x:Nat→Rat):Prop:=∀i,i≤m→sq (fun j=>(C j i:Rat)*x j) n+x (n+i)=(C (n+m+1) i:Rat)
structure Iv (s:Tb):Prop where
  dp:0 < s.d
  cl:∀j,j≤n→∀i,s.d*C (s.out j) i=sm (fun k=>s.T k j*C (s.win k) i) (m+1)
  dt:det (m+1) (fun k=>C (s.win k))=s.d
  fe:∀i,i < m→0≤s.T i n
  wm:s.win m=n+m
  on:s.out n=n+m+1
  oi:∀j,j < n→∀j',j' < n→s.out j=s.out j'→j=j'
  wi:∀k,k≤m→∀k',k'≤m→s.win k=s.win k'→k=k'
  dj:∀j,j < n→∀k,k≤m→s.out j≠s.win k
  cv:∀v,v≤n+m→(∃j,j < n∧s.out j=v)∨(∃k,k≤m∧s.win k=v)
  og:∀j,j < n→s.out j≤n+m
  wg:∀k,k≤m→s.win k≤n+m
  eq:∀x,KH n m C x↔ ∀k,k≤m→(s.d:Rat)*x (s.win k)+sq (fun j=>(s.T k j:Rat)*x (s.out j)) n=(s.T k n:Rat)
end
section
variable{n m:Nat}{C:Nat→Nat→Int}{s:Tb}(I:Iv n m C s){r c:Nat}(hr:r < m)(hc:c < n)(hp:0 < s.T r c)
include I hr hc hp
end
section
variable(n m:Nat)
structure L0 (s:Tb) (c:Nat):Prop where
  hc:c < n
  neg:s.T m c < 0
  first:∀j,j < n→s.T m j < 0→s.out c≤s.out j
structure L8 (s:Tb) (c r:Nat):Prop where
  hr:r < m
  pos:0 < s.T r c
  rat:∀i,i < m→0 < s.T i c→s.T r n*s.T i c≤s.T i n*s.T r c
  first:∀i,i < m→0 < s.T i c→s.T r n*s.T i c=s.T i n*s.T r c→s.win r≤s.win i
structure Ma (C:Nat→Nat→Int) (st:Nat→Tb) (cs rs:Nat→Nat) (K:Nat):Prop where
  iv:∀k,k≤K→Iv n m C (st k)
  en:∀k,k < K→L0 n m (st k) (cs k)
  le:∀k,k < K→L8 n m (st k) (cs k) (rs k)
  nx:∀k,k < K→st (k+1)=Mt (st k) (rs k) (cs k)
end
section
variable{n m:Nat}{C:Nat→Nat→Int}
variable{st:Nat→Tb}{cs rs:Nat→Nat}{K:Nat}(W:Ma n m C st cs rs K)
include W
end
section
variable{n m:Nat}{C:Nat→Nat→Int}
def zJ(n m:Nat)(C:Nat→Nat→Int):Tb where
  T:=fun i j=>if j=n then C (n+m+1) i else C j i
  d:=1
  out:=fun j=>if j=n then n+m+1 else j
  win:=fun k=>n+k
theorem LR(he:∀k,k≤m→∀i,C (n+k) i=if i=k then 1 else 0)(hz:∀a i,m < i→C a i=0)(hb:∀i,i < m→0≤C (n+m+1) i):Iv n m C (zJ n m C):=by
  have hid:∀(k:Nat) (c:Nat→Nat→Int),(∀a,a < k→∀i,c a i=if i=a then 1 else 0)→L2.det k c=1:=by
    intro k
    induction k with
    | zero=>intro c _;rfl
    | succ k ih=>
      intro c h
      rw [L2.det,BZ (p:=0) (by lia)]
      · rw [h 0 (by lia) 0,ih]
        · rfl
        · intro a ha i
          rw [show sk 0 a=a+1 by simp [sk],h (a+1) (by lia)]
          simp
      · intro j hj e
        rw [h j hj 0,if_neg (by lia)];simp
  refine⟨Int.one_pos,?_,?_,?_,rfl,?_,?_,?_,?_,?_,?_,?_,?_⟩
  · intro j hj i
    have key:∀(u:Nat→Int),(∀i,m < i→u i=0)→(1:Int)*u i=sm (fun k=>u k*C (n+k) i) (m+1):=by
      intro u hu
      by_cases e:i≤m
      · rw [BZ (p:=i) (by lia) fun k hk z=>?_]
        · rw [he i e i,if_pos rfl];lia
        · rw [he k (by lia) i,if_neg (fun y=>z y.symm)];simp
      · rw [hu i (by lia),yJ fun k hk=>?_]
        · rfl
        · rw [he k (by lia) i,if_neg (by lia)];simp
    simp only [zJ]
    by_cases e:j=n
    · simp only [if_pos e];exact key _ fun i hi=>hz _ i hi
    · simp only [if_neg e];exact key _ fun i hi=>hz _ i hi
  · exact hid (m+1) _ fun a ha i=>he a (by lia) i
  · intro i hi;simp only [zJ,if_true];exact hb i hi
  · simp [zJ]
  · intro j hj j' hj' e;simp only [zJ] at e;rw [if_neg (by lia),if_neg (by lia)] at e;exact e
  · intro k hk k' hk' e;simp only [zJ] at e;lia
  · intro j hj k hk e;simp only [zJ] at e;rw [if_neg (by lia)] at e;lia
  · intro v hv
    by_cases e:v < n
    · exact .inl ⟨v,e,by simp only [zJ];rw [if_neg (by lia)]⟩
    · exact .inr ⟨v - n,by lia,by simp only [zJ];lia⟩
  · intro j hj;simp only [zJ];rw [if_neg (by lia)];lia
  · intro k hk;simp only [zJ];lia
  · intro x
    refine⟨fun h k hk=>?_,fun h k hk=>?_⟩
    · have:=h k hk
      simp only [zJ,if_true]
      rw [qL (g:=fun j=>(C j k:Rat)*x j) fun j hj=>by rw [if_neg (by lia),if_neg (by lia)]]
      simp only [Rat.intCast_one]
      grind
    · have:=h k hk
      simp only [zJ,if_true] at this
      rw [qL (g:=fun j=>(C j k:Rat)*x j) fun j hj=>by rw [if_neg (by lia),if_neg (by lia)]] at this
      simp only [Rat.intCast_one] at this
      grind
end
open PySem PySem.Spec PyProof.Rows PySem.W
section
variable{prog:PK}{w:PJ}{A:PP}{R:Result→PB→Prop}
structure L' (I l S:xM) (vs:List MG) (rs:List (List Int)) (j:Nat) (arr:Array MG) (c:Nat) (h:PL):Prop where
  it:h.IsListIter I l j
  ls:h.IsList l vs.toArray
  ro:∀(i:Nat) (r:List Int),rs[i]?=some r→∃v,vs[i]?=some v∧KM h v r
  sc:h.get? S=some {cls:=.type "list",dict:=none,data:=.seq arr c,slots:=#[]}
end
section
variable{X:Cx}{K:PF}
end
section
variable{X:Cx}{K:PF}{x y:Str}{p p2 pos:Pos}{i j:Nat}{a c:PH}
end
section
variable{X:Cx}{K:PF}{pos p2:Pos}
end
structure MO (n m:Nat) (s:Tb):Prop where
  d:Bt 1900 s.d
  t:∀i,i≤m→∀j,j≤n→Bt 1900 (s.T i j)
def Mo(n m:Nat)(g:Nat→Int)(A:Nat→Nat→Int)(b:Nat→Int)(v i:Nat):Int:=
  if v < n then(if i < m then A i v else if i=m then - g v else 0) else if v≤n+m then(if i=v - n then 1 else 0) else if v=n+m+1 then(if i < m then b i else 0) else 0
section
variable(n m:Nat)(g:Nat→Int)(A:Nat→Nat→Int)(b:Nat→Int)
end
section
variable{n m:Nat}{g:Nat→Int}{A:Nat→Nat→Int}{b:Nat→Int}
end
abbrev TL:=l6 × Rat
def rs(f:TL→Rat):List TL→Rat
  | []=>0
  | p::P=>f p+rs f P
def FX(th:Int)(t:l6):Bool:=t.one==th || t.other==th
def Ja(th:Int)(p:TL):Rat:=if FX th p.1=true then(p.1.top:Rat)*p.2 else 0
def IA(th:Int)(p:TL):Rat:=if FX th p.1=true then(p.1.bot:Rat)*p.2 else 0
def Iw(p:TL):Rat:=(p.1.bot:Rat)*p.2
def EO(p:TL):Rat:=((p.1.top*p.1.worth:Int):Rat)*p.2
structure EA (W:aR) (P:List TL):Prop where
  ties:P.map (·.1)=W.ties
  nn:∀p∈P,0≤p.2
  once:∀p∈P,Iw p≤1
  keep:∀k:Nat,(k:Int) < W.things→rs (Ja k) P≤1
  bear:∀k:Nat,(k:Int) < W.things→rs (IA k) P≤(W.pat.getD k 0:Rat)
  ask:rs Iw P≤(W.asks:Rat)
structure ME (W:aR) (V:Rat):Prop where
  ex:∃P,EA W P∧rs EO P=V
  top:∀P,EA W P→rs EO P≤V
structure Up (t t':l6) (r:Rat):Prop where
  one:t'.one=t.one
  other:t'.other=t.other
  r0:0≤r
  top:(t'.top:Rat)*r≤(t.top:Rat)
  bot:(t'.bot:Rat)*r≤(t.bot:Rat)
  gain:((t.top*t.worth:Int):Rat)≤((t'.top*t'.worth:Int):Rat)*r
def tj(W:aR)(j:Nat):l6:=W.ties.getD j ⟨0,0,0,0,0⟩
def wT(W:aR):Nat:=W.things.toNat
section
variable{W:aR}
end
def nv(p q i:Nat):Int:=(if i=p then 1 else 0) - (if i=q then 1 else 0)
section
variable{n m:Nat}{g:Nat→Int}{A:Nat→Nat→Int}{b:Nat→Int}
end
def hG(W:aR)(j:Nat):Int:=(tj W j).worth
def hA(W:aR)(i j:Nat):Int:=if FX (i:Int) (tj W j)=true then 1 else 0
def hO(_:Nat):Int:=1
abbrev hC(W:aR):Nat→Nat→Int:=Mo W.ties.length (wT W) (hG W) (hA W) hO
def hS(c:Int→Bool)(i:Nat):Int:=if c (i:Int)=true then 1 else -1
section
variable{W:aR}(ok:W.Ok){c:Int→Bool}(hc:∀t∈W.ties,c t.one≠c t.other)
include ok hc
end
structure L7 (W:aR) (X Y:Nat→Int):Prop where
  x01:∀j,j < W.ties.length→X j=0∨X j=1
  one:∀i,i < wT W→sm (fun j=>hA W i j*X j) W.ties.length≤1
  y0:∀i,0≤Y i
  paid:∀j,j < W.ties.length→hG W j≤Y (tj W j).one.toNat+Y (tj W j).other.toNat
  eq:sm Y (wT W)=sm (fun j=>hG W j*X j) W.ties.length
inductive Ob where
  /-- a desk: its attributes -/
  | dk (fs:List (Str × PD))
  /-- a tuple of two own lists -/
  | st (xs ys:List PD)
def jo(K:PF)(F:Hp):List (Str × PD)→List (Str × V)→Prop
  | [],gs=>gs=[]
  | p::r,gs=>∃v hs,gs=(p.1,v)::hs∧DA K F p.2 v∧jo K F r hs
theorem jo.mono{K:PF}{F F':Hp}(h:ax F F'):∀{fs:List (Str × PD)} {gs:List (Str × V)},jo K F fs gs→jo K F' fs gs
  | [],_,q=>q
  | _::_,_,⟨v,hs,e,a,b⟩=>⟨v,hs,e,a.mono h,jo.mono h b⟩
theorem jo.len{K:PF}{F:Hp}:∀{fs:List (Str × PD)} {gs:List (Str × V)},jo K F fs gs→gs.length=fs.length
  | [],_,q=>by rw [show _=[] from q];rfl
  | _::_,_,⟨v,hs,e,a,b⟩=>by rw [e];simp [jo.len b]
theorem jo.get{K:PF}{F:Hp}{f:Str}{x:PD}:∀{fs:List (Str × PD)} {gs:List (Str × V)},jo K F fs gs→fs.lookup f=some x→∃v,gs.lookup f=some v∧DA K F x v
  | [],_,_,h=>by cases h
  | (g,y)::r,_,⟨v,hs,e,a,b⟩,h=>by
    subst e
    rw [Qw] at h ⊢
    cases c:f==g with
    | true=>rw [c] at h;cases h;exact⟨v,rfl,a⟩
    | false=>rw [c] at h;exact jo.get b h
def mS(f:Str)(x:PD):List (Str × PD)→List (Str × PD)
  | []=>[(f,x)]
  | (g,y)::r=>if g=f then(g,x)::r else(g,y)::mS f x r
theorem jo.put{K:PF}{F:Hp}{f:Str}{x:PD}{v:V}(hx:DA K F x v):∀{fs:List (Str × PD)} {gs:List (Str × V)},jo K F fs gs→jo K F (mS f x fs) (jd f v gs)
  | [],_,q=>by rw [show _=[] from q];exact⟨v,[],rfl,hx,rfl⟩
  | (g,y)::r,_,⟨u,hs,e,a,b⟩=>by
    subst e
    by_cases c:g=f
    · simp only [mS,jd,if_pos c];exact⟨v,hs,rfl,hx,b⟩
    · simp only [mS,jd,if_neg c];exact⟨u,_,rfl,a,jo.put hx b⟩
theorem jo.none{K:PF}{F:Hp}{f:Str}:∀{fs:List (Str × PD)} {gs:List (Str × V)},jo K F fs gs→fs.lookup f=none→gs.lookup f=none
  | [],_,q,_=>by rw [show _=[] from q];rfl
  | (g,y)::r,_,⟨v,hs,e,a,b⟩,h=>by
    subst e
    rw [Qw] at h ⊢
    cases c:f==g with
    | true=>rw [c] at h;cases h
    | false=>rw [c] at h;exact jo.none b h
def oZ(K:PF)(C:xM)(F H:Hp):Ob→V→List xM→Prop
  | .dk fs,v,as=>∃p dx gs,v=.ref p∧as=[p]∧F p=none∧H p=some (.ins C dx gs)∧jo K F fs gs
  | .st xs ys,v,as=>∃t l m vs us,v=.ref t∧as=[l,m]∧l≠m∧fB K F t [.ref l,.ref m]∧F l=none∧F m=none∧H l=some (.lst vs)∧H m=some (.lst us)∧aT K F xs vs∧aT K F ys us
def kept:HO→Bool
  | .ins _ _ _=>true
  | .lst _=>true
  | _=>false
theorem oZ.at{K:PF}{C:xM}{F H:Hp}{o:Ob}{v:V}{as:List xM}(h:oZ K C F H o v as):∀a∈as,F a=none∧∃u,H a=some u∧kept u=true:=by
  cases o with
  | dk fs=>
    obtain⟨p,dx,gs,rfl,rfl,h1,h2,_⟩:=h
    intro a ha
    rw [RP] at ha
    subst ha
    exact⟨h1,_,h2,rfl⟩
  | st xs ys=>
    obtain⟨t,l,m,vs,us,rfl,rfl,h0,h1,h2,h3,h4,h5,_⟩:=h
    intro a ha
    rcases Px ha with z | z
    · rw [z];exact⟨h2,_,h4,rfl⟩
    · rw [RP] at z;rw [z];exact⟨h3,_,h5,rfl⟩
theorem oZ.mono{K:PF}{C:xM}{F H F' H':Hp}{o:Ob}{v:V}{as:List xM}(h:oZ K C F H o v as)(s:ax F F')(hf:∀a∈as,F' a=none)(hh:∀a∈as,H' a=H a):oZ K C F' H' o v as:=by
  cases o with
  | dk fs=>
    obtain⟨p,dx,gs,rfl,rfl,h1,h2,h3⟩:=h
    exact⟨p,dx,gs,rfl,rfl,hf p (by simp),by rw [hh p (by simp)];exact h2,h3.mono s⟩
  | st xs ys=>
    obtain⟨t,l,m,vs,us,rfl,rfl,h0,h1,h2,h3,h4,h5,h6,h7⟩:=h
    exact⟨t,l,m,vs,us,rfl,rfl,h0,s.tup h1,hf l (by simp),hf m (by simp),by rw [hh l (by simp)];exact h4,by rw [hh m (by simp)];exact h5,h6.mono s,h7.mono s⟩
inductive Lc where
  | s (i:Nat)
  | it (i k:Nat)
  deriving DecidableEq
def Lc.slot:Lc→Nat
  | .s i=>i
  | .it i _=>i
def nE(K:PF)(F:Hp)(σ:L2.St):Lc→V→Prop
  | .s i,v=>σ[i]?=some (some v)
  | .it i k,v=>∃l vs,σ[i]?=some (some (.ref l))∧F l=some (.lst vs)∧vs[k]?=some v
theorem nE.mono{K:PF}{F F':Hp}{σ σ':L2.St}{c:Lc}{v:V}(h:nE K F σ c v)(s:ax F F')(e:σ'[c.slot]?=σ[c.slot]?):nE K F' σ' c v:=by
  cases c with
  | s i=>exact e.trans h
  | it i k=>obtain⟨l,vs,h1,h2,h3⟩:=h;exact⟨l,vs,e.trans h1,s _ _ h2,h3⟩
theorem nE.uniq{K:PF}{F:Hp}{σ:L2.St}{c:Lc}{v w:V}(h:nE K F σ c v)(h':nE K F σ c w):v=w:=by
  cases c with
  | s i=>have e1:σ[i]?=_:=h;have e2:σ[i]?=_:=h';rw [e1] at e2;cases e2;rfl
  | it i k=>
    obtain⟨l,us,e1,e2,e3⟩:=h
    obtain⟨l',us',e1',e2',e3'⟩:=h'
    rw [e1] at e1';cases e1'
    rw [e2] at e2';cases e2'
    rw [e3] at e3';cases e3';rfl
abbrev j2:=List (Lc × Ob)
def Fo(ob:j2)(fp:Lc→List xM)(a:xM):Prop:=∃p∈ob,a∈fp p.1
structure bu (K:PF) (C:xM) (F H:Hp) (σ:L2.St) (e:En) (ob:j2) (fp:Lc→List xM):Prop where
  rel:bj K F H σ e
  obs:∀p∈ob,e[p.1.slot]?=some none∧∃v,nE K F σ p.1 v∧oZ K C F H p.2 v (fp p.1)
  dis:∀p∈ob,∀q∈ob,p.1≠q.1→∀a∈fp p.1,a∉fp q.1
  own:∀a,Fo ob fp a→¬cj σ e H a
structure cC (W:List Nat) (σ:L2.St) (F H:Hp) (e:En) (S:xM→Prop) (σ':L2.St) (F' H':Hp) (e':En) (S':xM→Prop):Prop where
  sf:ax F F'
  dom:∀a,H' a=none→H a=none
  fr:∀a vs,F a=none→H a=some (.lst vs)→¬cj σ e H a→¬S a→F' a=none
  lst:∀a vs,H a=some (.lst vs)→∃vs',H' a=some (.lst vs')
  tmp:∀a o,H a=some o→¬cj σ e H a→¬S a→H' a=some o
  own:∀a,cj σ' e' H' a∨S' a→(cj σ e H a∨S a)∨H a=none
  wr:∀j,j∉W→σ'[j]?=σ[j]?
  fd:∀a (m:DI),F a=none→H a=some m.1→¬cj σ e H a→¬S a→F' a=none
section
variable{K:PF}{C:xM}{W W1 W2:List Nat}{σ σ' σ1 σ2:L2.St}{F H F' H' F1 H1 F2 H2:Hp}{e e' e1 e2:En}{ob ob':j2}{fp fp':Lc→List xM}{S S' S1 S2:xM→Prop}
theorem cC.refl:cC W σ F H e S σ F H e S:=⟨ax.refl _,fun _ h=>h,fun _ _ h _ _ _=>h,fun _ vs h=>⟨vs,h⟩,fun _ _ h _ _=>h,fun _ h=>.inl h,fun _ _=>rfl,fun _ _ h _ _ _=>h⟩
theorem cC.no(x:cC W σ F H e S σ1 F1 H1 e1 S1){a:xM}(n1:¬cj σ e H a)(n2:¬S a){o:HO}(h:H a=some o):¬cj σ1 e1 H1 a∧¬S1 a:=by
  have k:¬(cj σ1 e1 H1 a∨S1 a):=fun z=>(x.own a z).elim (fun z=>z.elim n1 n2) fun z=>by rw [h] at z;cases z
  exact⟨fun z=>k (.inl z),fun z=>k (.inr z)⟩
theorem cC.trans(x:cC W σ F H e S σ1 F1 H1 e1 S1)(y:cC W σ1 F1 H1 e1 S1 σ2 F2 H2 e2 S2):cC W σ F H e S σ2 F2 H2 e2 S2:=
  ⟨x.sf.trans y.sf,fun a h=>x.dom a (y.dom a h),fun a vs h n n1 n2=>let ⟨vs',q⟩:=x.lst a vs n;y.fr a vs' (x.fr a vs h n n1 n2) q (x.no n1 n2 n).1 (x.no n1 n2 n).2,fun a vs h=>let ⟨vs',q⟩:=x.lst a vs h;y.lst a vs' q,
    fun a o h n1 n2=>y.tmp a o (x.tmp a o h n1 n2) (x.no n1 n2 h).1 (x.no n1 n2 h).2,fun a h=>(y.own a h).elim (x.own a) (fun z=>.inr (x.dom a z)),fun j h=>(y.wr j h).trans (x.wr j h),
    fun a m h n n1 n2=>y.fd a m (x.fd a m h n n1 n2) (x.tmp a _ n n1 n2) (x.no n1 n2 n).1 (x.no n1 n2 n).2⟩
theorem cC.mono(x:cC W1 σ F H e S σ' F' H' e' S')(h:∀j,j∈W1→j∈W):cC W σ F H e S σ' F' H' e' S':=⟨x.sf,x.dom,x.fr,x.lst,x.tmp,x.own,fun j n=>x.wr j fun z=>n (h j z),x.fd⟩
theorem bu.at(R:bu K C F H σ e ob fp){a:xM}(h:Fo ob fp a):F a=none∧∃u,H a=some u∧kept u=true:=by
  obtain⟨p,hp,ha⟩:=h
  obtain⟨_,v,_,h2⟩:=R.obs p hp
  exact h2.at a ha
def okO(ob:j2)(e:En):Bool:=ob.all fun p=>match e[p.1.slot]? with
  | some none=>true
  | _=>false
theorem A0(h:okO ob e=true){p:Lc × Ob}(hp:p∈ob):e[p.1.slot]?=some none:=by
  have:=Qp.mp h p hp
  split at this
  · rename_i heq;exact heq
  · cases this
theorem bu.okO(R:bu K C F H σ e ob fp):L2.okO ob e=true:=Qp.mpr fun p hp=>by rw [(R.obs p hp).1]
theorem bu.hn(R:bu K C F H σ e ob fp):∀a,Fo ob fp a→H a≠none:=fun a ha=>by
  obtain⟨_,u,h,_⟩:=R.at ha
  rw [h];simp
theorem bu.next(R:bu K C F H σ e ob fp)(x:eB W σ F H e σ' F' H' e')(hw:∀p∈ob,p.1.slot∉W)(he:L2.okO ob e'=true)(R':bj K F' H' σ' e'):
    cC W σ F H e (Fo ob fp) σ' F' H' e' (Fo ob fp)∧bu K C F' H' σ' e' ob fp:=by
  have hh:∀a,Fo ob fp a→H' a=H a:=fun a ha=>by
    obtain⟨_,u,h1,_⟩:=R.at ha
    rw [h1];exact x.tmp a u h1 (R.own a ha)
  have f0:∀a,Fo ob fp a→F' a=none:=fun a ha=>by
    obtain⟨g1,u,g2,g3⟩:=R.at ha
    cases u with
    | ins c d fs=>exact x.fd a ⟨_,rfl⟩ g1 g2 (R.own a ha)
    | lst vs=>exact x.fr a vs g1 g2 (R.own a ha)
    | _=>cases g3
  refine⟨⟨x.sf,x.dom,fun a vs h1 h2 h3 _=>x.fr a vs h1 h2 h3,x.lst,fun a o h1 h2 _=>x.tmp a o h1 h2,?_,x.wr,fun a m h1 h2 h3 _=>x.fd a m h1 h2 h3⟩,R',fun p hp=>⟨A0 he hp,?_⟩,R.dis,fun a ha z=>?_⟩
  · rintro a (z | z)
    · exact(x.own a z).imp_left .inl
    · exact .inl (.inr z)
  · obtain⟨_,v,h1,h2⟩:=R.obs p hp
    exact⟨v,h1.mono x.sf (x.wr _ (hw p hp)),h2.mono x.sf (fun a ha=>f0 a ⟨p,hp,ha⟩) (fun a ha=>hh a ⟨p,hp,ha⟩)⟩
  · rcases x.own a z with z | z
    · exact R.own a ha z
    · exact R.hn a ha z
end
abbrev EX:=En × j2
abbrev XE:=EX→Option (PD × EX)
abbrev XT:=EX→Option (Bool × EX)
abbrev XA:=EX→Option (List PD × EX)
def jC(K:PF)(C:xM)(f:XE):TE:=fun σ H Q=>∃F x fp r x',bu K C F H σ x.1 x.2 fp∧f x=some (r,x')∧∀F' H' v fp',cC [] σ F H x.1 (Fo x.2 fp) σ F' H' x'.1 (Fo x'.2 fp')→bu K C F' H' σ x'.1 x'.2 fp'→DA K F' r v→Q v H'
def oy(K:PF)(C:xM)(f:XT):TT:=fun σ H Q=>∃F x fp b x',bu K C F H σ x.1 x.2 fp∧f x=some (b,x')∧∀F' H' fp',cC [] σ F H x.1 (Fo x.2 fp) σ F' H' x'.1 (Fo x'.2 fp')→bu K C F' H' σ x'.1 x'.2 fp'→Q b H'
def CF(K:PF)(C:xM)(f:XA):TA:=fun σ H Q=>∃F x fp rs x',bu K C F H σ x.1 x.2 fp∧f x=some (rs,x')∧∀F' H' vs fp',cC [] σ F H x.1 (Fo x.2 fp) σ F' H' x'.1 (Fo x'.2 fp')→bu K C F' H' σ x'.1 x'.2 fp'→aT K F' rs vs→Q vs H'
section
variable{K:PF}{C:xM}{W:List Nat}{σ σ0:L2.St}{F H F' H' F0 H0:Hp}{e e' e0:En}{ob:j2}{fp:Lc→List xM}{S:xM→Prop}
theorem bu.toD{r:Rv}{d:PD}{v:V}{H1:Hp}(Y:cC W σ0 F0 H0 e0 S σ F H e (Fo ob fp))(R:bu K C F H σ e ob fp)(hd:∀a,H1 a=none→H0 a=none)(hn:∀a,Fo ob fp a→H1 a≠none)(A:cK K σ H1 F H e r v)(h:iw r=some d):
    ∃F2,cC W σ0 F0 H0 e0 S σ F2 H e (Fo ob fp)∧bu K C F2 H σ e ob fp∧DA K F2 d v:=by
  cases r with
  | d x=>cases h;exact⟨F,Y,R,A⟩
  | s i=>cases h
  | l xs=>
    cases h
    obtain⟨F2,R2,s2,D2,f2⟩:=A.frozen R.rel
    have nh:∀a o,H0 a=some o→H1 a≠none:=fun a o z w=>by rw [hd a w] at z;cases z
    exact⟨F2,⟨Y.sf.trans s2,Y.dom,fun a vs h1 h2 h3 h4=>f2 a (Y.fr a vs h1 h2 h3 h4) (nh a _ h2),Y.lst,Y.tmp,Y.own,Y.wr,fun a m h1 h2 h3 h4=>f2 a (Y.fd a m h1 h2 h3 h4) (nh a _ h2)⟩,
      ⟨R2,fun p hp=>let ⟨c1,u,c2,c3⟩:=R.obs p hp;⟨c1,u,c2.mono s2 rfl,c3.mono s2 (fun a ha=>f2 a (R.at ⟨p,hp,ha⟩).1 (hn a ⟨p,hp,ha⟩)) fun _ _=>rfl⟩,R.dis,R.own⟩,D2⟩
theorem bu.pure(R:bu K C F H σ e ob fp)(X:dY σ F H e F' H' e')(R':bj K F' H' σ e')(he:L2.okO ob e'=true):cC [] σ F H e (Fo ob fp) σ F' H' e' (Fo ob fp)∧bu K C F' H' σ e' ob fp:=R.next X.s (fun _ _=>by simp) he R'
theorem bu.pure0(R:bu K C F H σ e ob fp)(X:dY σ F H e F' H' e)(R':bj K F' H' σ e):cC [] σ F H e (Fo ob fp) σ F' H' e (Fo ob fp)∧bu K C F' H' σ e ob fp:=R.pure X R' R.okO
end
section
variable{X:Cx}{K:PF}{C:xM}{a b:PH}{fe:FE}{fa fb:XE}{ft fu:XT}{fs:XA}{pos:Pos}{es:List PH}{cH:List PH}
def aC(f:FE):XE:=fun x=>(f x.1).bind fun p=>(iw p.1).bind fun d=>if okO x.2 p.2=true then some (d,(p.2,x.2)) else none
theorem ay(he:PE X a (fE K fe)):PE X a (jC K C (aC fe)):=he.mono fun σ H Q h=>by
  obtain⟨F,x,as,r,x',R,hf,q⟩:=h
  unfold aC at hf
  obtain⟨⟨r1,e1⟩,h1,hf⟩:=Pr hf
  obtain⟨d,h2,hf⟩:=Pr hf
  split at hf
  case isFalse=>cases hf
  case isTrue ho=>
  cases hf
  refine⟨F,x.1,r1,e1,R.rel,h1,fun F' H' v X' R' A'=>?_⟩
  obtain⟨Y,R2⟩:=R.pure X' R' ho
  obtain⟨F2,Y2,R3,D⟩:=bu.toD Y R2 (fun _ z=>z) R.hn A' h2
  exact q F2 H' v as Y2 R3 D
def de(f:FT):XT:=fun x=>(f x.1).bind fun p=>if okO x.2 p.2=true then some (p.1,(p.2,x.2)) else none
theorem gz{ft:FT}(he:PT X a (fT K ft)):PT X a (oy K C (de ft)):=he.mono fun σ H Q h=>by
  obtain⟨F,x,as,r,x',R,hf,q⟩:=h
  unfold de at hf
  obtain⟨⟨r1,e1⟩,h1,hf⟩:=Pr hf
  split at hf
  case isFalse=>cases hf
  case isTrue ho=>
  cases hf
  refine⟨F,x.1,r1,e1,R.rel,h1,fun F' H' X' R'=>?_⟩
  obtain⟨Y,R2⟩:=R.pure X' R' ho
  exact q F' H' as Y R2
def dQ(g:En→Rv→Rv→Option Rv)(fa fb:XE):XE:=fun x=>(fa x).bind fun p=>(fb p.2).bind fun q=>(g q.2.1 (.d p.1) (.d q.1)).bind fun z=>(iw z).map fun d=>(d,q.2)
theorem uy{r:R2}{g:En→Rv→Rv→Option Rv}(ho:gT K r g){σ:L2.St}{H:Hp}{Q:VK}(h:jC K C (dQ g fa fb) σ H Q):Il r (jC K C fa) (jC K C fb) σ H Q:=by
  obtain⟨F,x,as,z,x',R,hf,q⟩:=h
  unfold dQ at hf
  obtain⟨⟨y,x1⟩,h1,hf⟩:=Pr hf
  obtain⟨⟨y2,x2⟩,h2,hf⟩:=Pr hf
  obtain⟨z',h3,hf⟩:=Pr hf
  obtain⟨d,h4,hf⟩:=Pt hf
  cases hf
  refine⟨F,x,as,y,x1,R,h1,fun F1 H1 v as1 X1 R1 A1=>⟨F1,x1,as1,y2,_,R1,h2,fun F2 H2 u as2 X2 R2 A2=>?_⟩⟩
  refine ho σ H F2 H2 _ (.d y) (.d y2) z' v u Q R2.rel (show DA K F2 y v from A1.mono X2.sf) (show DA K F2 y2 u from A2) h3 fun F3 H3 w X3 R3 A3=>?_
  obtain⟨Y,R4⟩:=R2.pure0 X3 R3
  obtain⟨F4,Y4,R5,D⟩:=bu.toD Y R4 (fun _ z=>z) R2.hn A3 h4
  exact q F4 H3 w _ ((X1.trans X2).trans Y4) R5 D
theorem Hm{op:Operator}{r:R2}{g:En→Rv→Rv→Option Rv}(hr:iH X (Qt op) r)(ho:gT K r g)(ha:PE X a (jC K C fa))(hb:PE X b (jC K C fb)):PE X (.BinOp a op b pos) (jC K C (dQ g fa fb)):=(EW hr ha hb).mono fun _ _ _ h=>uy ho h
theorem Hi(hK:X.K=K)(ha:PE X a (jC K C fa))(hb:PE X b (jC K C fb)):PE X (.BinOp a .Add b pos) (jC K C (dQ bi fa fb)):=Hm (hK ▸ yo) EC ha hb
theorem Bm(hK:X.K=K)(ha:PE X a (jC K C fa))(hb:PE X b (jC K C fb))(hs:l7 b):PE X (.Subscript a b pos) (jC K C (dQ dC fa fb)):=(EV (hK ▸ I0) ha hb hs).mono fun _ _ _ h=>uy I_ h
def boolD:PD→Option Bool
  | .bool b=>some b
  | _=>none
theorem zX{F:Hp}{d:PD}{v:V}{b:Bool}(h:DA K F d v)(q:boolD d=some b):v=.bl b:=by
  unfold boolD at q
  split at q
  · cases q;exact ef.mp h
  · cases q
def bG(f:XE):XT:=fun x=>(f x).bind fun p=>(boolD p.1).map fun b=>(b,p.2)
theorem sU{σ:L2.St}{H:Hp}{Q:Bool→Hp→Prop}(h:oy K C (bG fa) σ H Q):jC K C fa σ H fun x H'=>∃k,x=.bl k∧Q k H':=by
  obtain⟨F,x,as,b,x1,R,hf,q⟩:=h
  unfold bG at hf
  obtain⟨⟨y,x1'⟩,h1,hf⟩:=Pr hf
  obtain⟨b',h3,hf⟩:=Pt hf
  cases hf
  exact⟨F,x,as,y,_,R,h1,fun F1 H1 v as1 X1 R1 A1=>⟨_,zX A1 h3,q F1 H1 as1 X1 R1⟩⟩
theorem iM{op:CmpOp}{g:En→Rv→Rv→Option Rv}(h:oX X K op g)(ha:PE X a (jC K C fa))(hb:PE X b (jC K C fb))(hm:Rl op b=false):PT X (.Compare a [op] [b] pos) (oy K C (bG (dQ g fa fb))):=by
  obtain⟨r,h1,h2⟩:=h.ex
  exact(yq h1 ha hb hm).mono fun σ H Q h=>by
    obtain⟨F,x,as,z,x2,R,hf,q⟩:=sU h
    exact uy h2 ⟨F,x,as,z,x2,R,hf,q⟩
theorem DX{e:PH}(h:PE X e (jC K C fa))(he:∀whole,isTrue e X.env whole=(do let v ←whole;RH e.pos;Rm [v] (truthy v))):PT X e (oy K C (bG fa)):=(Bj h he).mono fun _ _ _ h=>sU h
def qP(f g:XT):XT:=fun e=>(f e).bind fun p=>if p.1=true then g p.2 else some (false,p.2)
def xP(f g:XT):XT:=fun e=>(f e).bind fun p=>if p.1=true then some (true,p.2) else g p.2
def sT(f:XT):XT:=fun e=>(f e).map fun p=>(!p.1,p.2)
theorem B9{σ:L2.St}{H:Hp}{Q:Bool→Hp→Prop}(h:oy K C (qP ft fu) σ H Q):HM (oy K C ft) (oy K C fu) σ H Q:=by
  obtain⟨F,e,as,b,e1,R,hf,q⟩:=h
  unfold qP at hf
  obtain⟨⟨x,e1'⟩,h1,hf⟩:=Pr hf
  refine⟨F,e,as,x,e1',R,h1,fun F1 H1 as1 X1 R1=>?_⟩
  cases x with
  | true=>exact⟨F1,e1',as1,b,e1,R1,hf,fun F2 H2 as2 X2 R2=>q F2 H2 as2 (X1.trans X2) R2⟩
  | false=>cases hf;exact q F1 H1 as1 X1 R1
theorem Es{σ:L2.St}{H:Hp}{Q:Bool→Hp→Prop}(h:oy K C (xP ft fu) σ H Q):Lu (oy K C ft) (oy K C fu) σ H Q:=by
  obtain⟨F,e,as,b,e1,R,hf,q⟩:=h
  unfold xP at hf
  obtain⟨⟨x,e1'⟩,h1,hf⟩:=Pr hf
  refine⟨F,e,as,x,e1',R,h1,fun F1 H1 as1 X1 R1=>?_⟩
  cases x with
  | false=>exact⟨F1,e1',as1,b,e1,R1,hf,fun F2 H2 as2 X2 R2=>q F2 H2 as2 (X1.trans X2) R2⟩
  | true=>cases hf;exact q F1 H1 as1 X1 R1
theorem Bx(ha:PT X a (oy K C ft)):PW X (.BoolOp .And [a] pos) (oy K C ft):=yr ha
theorem DZ(ha:PT X a (oy K C ft)):PW X (.BoolOp .Or [a] pos) (oy K C ft):=Bl ha
theorem DY(ha:PT X a (oy K C ft))(hb:PW X (.BoolOp .And (b::cH) pos) (oy K C fu)):PW X (.BoolOp .And (a::b::cH) pos) (oy K C (qP ft fu)):=(Bk ha hb).mono fun _ _ _ h=>B9 h
theorem Hv(ha:PT X a (oy K C ft))(hb:PW X (.BoolOp .Or (b::cH) pos) (oy K C fu)):PW X (.BoolOp .Or (a::b::cH) pos) (oy K C (xP ft fu)):=(EZ ha hb).mono fun _ _ _ h=>Es h
theorem DV(ha:PT X a (oy K C ft)):PT X (.UnaryOp .Not a pos) (oy K C (sT ft)):=(Bi ha).mono fun σ H Q h=>by
  obtain⟨F,e,as,b,e1,R,hf,q⟩:=h
  unfold sT at hf
  obtain⟨⟨x,e1'⟩,h1,hf⟩:=Pt hf
  cases hf
  exact⟨F,e,as,x,_,R,h1,fun F1 H1 as1 X1 R1=>q F1 H1 as1 X1 R1⟩
theorem E5{e:PH}(h:PW X e (oy K C ft)):PT X e (oy K C ft):=h.pt
def wj(t:XT)(f g:XE):XE:=fun e=>(t e).bind fun p=>if p.1=true then f p.2 else g p.2
theorem su{c:PH}(hc:PT X c (oy K C ft))(ha:PE X a (jC K C fa))(hb:PE X b (jC K C fb)):PE X (.IfExp c a b pos) (jC K C (wj ft fa fb)):=(vE hc ha hb).mono fun σ H Q h=>by
  obtain⟨F,e,as,z,e2,R,hf,q⟩:=h
  unfold wj at hf
  obtain⟨⟨x,e1⟩,h1,hf⟩:=Pr hf
  refine⟨F,e,as,x,e1,R,h1,fun F1 H1 as1 X1 R1=>?_⟩
  cases x with
  | true=>exact⟨F1,e1,as1,z,e2,R1,hf,fun F2 H2 w as2 X2 R2 A2=>q F2 H2 w as2 (X1.trans X2) R2 A2⟩
  | false=>exact⟨F1,e1,as1,z,e2,R1,hf,fun F2 H2 w as2 X2 R2 A2=>q F2 H2 w as2 (X1.trans X2) R2 A2⟩
def gE:XA:=fun e=>some ([],e)
def bQ(fa:XE)(fs:XA):XA:=fun e=>(fa e).bind fun p=>(fs p.2).map fun q=>(p.1::q.1,q.2)
theorem mU:PA X [] (CF K C gE):=lR.mono fun σ H Q h=>by
  obtain⟨F,e,as,r,e',R,hf,q⟩:=h
  cases hf
  exact q F H [] as cC.refl R aT.nil
theorem lw(ha:PE X a (jC K C fa))(hr:PA X es (CF K C fs))(h:SX a=false):PA X (a::es) (CF K C (bQ fa fs)):=(Dx ha hr h).mono fun σ H Q h=>by
  obtain⟨F,e,as,z,e2,R,hf,q⟩:=h
  unfold bQ at hf
  obtain⟨⟨x,e1⟩,h1,hf⟩:=Pr hf
  obtain⟨⟨xs,e2'⟩,h2,hf⟩:=Pt hf
  cases hf
  refine⟨F,e,as,x,e1,R,h1,fun F1 H1 v as1 X1 R1 A1=>⟨F1,e1,as1,xs,_,R1,h2,fun F2 H2 vs as2 X2 R2 A2=>?_⟩⟩
  exact q F2 H2 (v::vs) as2 (X1.trans X2) R2 (.cons (A1.mono X2.sf) A2)
theorem Fc{F H0 H:Hp}{σ:L2.St}{e:En}:∀{ds:List PD} {vs:List V},aT K F ds vs→eF K σ H0 F H e (ds.map .d) vs
  | [],_,h=>by simp only [aT] at h;exact h
  | d::ds,_,h=>by
    simp only [aT] at h
    obtain⟨x,r,rfl,h1,h2⟩:=h
    exact⟨x,r,rfl,h1,Fc h2⟩
def oe(g:En→List Rv→Option Rv)(fs:XA):XE:=fun x=>(fs x).bind fun p=>(g p.2.1 (p.1.map .d)).bind fun z=>(iw z).map fun d=>(d,p.2)
theorem sQ{r:List V→Hp→VK→Prop}{g:En→List Rv→Option Rv}(ho:dS K r g){σ:L2.St}{H:Hp}{Q:VK}(h:jC K C (oe g fs) σ H Q):Kq r (CF K C fs) σ H Q:=by
  obtain⟨F,x,as,z,x2,R,hf,q⟩:=h
  unfold oe at hf
  obtain⟨⟨ds,x1⟩,h1,hf⟩:=Pr hf
  obtain⟨z',h3,hf⟩:=Pr hf
  obtain⟨d,h4,hf⟩:=Pt hf
  cases hf
  refine⟨F,x,as,ds,_,R,h1,fun F1 H1 vs as1 X1 R1 A1=>?_⟩
  refine ho σ H F1 H1 _ _ _ vs Q R1.rel (Fc A1) h3 fun F3 H3 w X3 R3 A3=>?_
  obtain⟨Y,R4⟩:=R1.pure0 X3 R3
  obtain⟨F4,Y4,R5,D⟩:=bu.toD Y R4 (fun _ z=>z) R1.hn A3 h4
  exact q F4 H3 w _ (X1.trans Y4) R5 D
theorem Hj{x:Str}{g:En→List Rv→Option Rv}(h:lC X K x g)(hg:Gl X x)(hm:X.mg x=none)(ha:PA X (a::es) (CF K C fs))(hn:x≠"__name__")(hdb:(x==("__debug__":Str))=false){p:Pos}
    (he:PU (a::es) X.env=(false,PV a X.env)::PU es X.env)(hpl:(Qf pos (PU es X.env)).any (·.1)=false):PE X (.Call (.Name x p) (a::es) [] pos) (jC K C (oe g fs)):=by
  rcases h.ex with ⟨id,r,h1,h2,h3⟩ | ⟨T,r,h1,h2,h3⟩
  · exact(qg h1 hg hm h3 ha hn hdb he hpl).mono fun _ _ _ h=>sQ h2 h
  · exact(sr h1 hg hm h3 ha hn hdb he hpl).mono fun _ _ _ h=>sQ h2 h
def Et(fa:XE)(lo hi:Option Int):XE:=fun x=>(fa x).bind fun p=>(CL p.2.1 (.d p.1) lo hi).bind fun z=>(iw z).map fun d=>(d,p.2)
def bR(i:Nat)(f:Str):XE:=fun x=>match x.2.lookup (.s i) with
  | some (.dk fs)=>(fs.lookup f).map fun d=>(d,x)
  | _=>none
theorem e_{c:Lc}{o:Ob}:∀{ob:j2},ob.lookup c=some o→(c,o)∈ob
  | [],h=>by cases h
  | (c0,o0)::r,h=>by
    rw [Qw] at h
    cases k:c==c0 with
    | true=>
      rw [k] at h;cases h
      rw [eq_of_beq k];exact RG
    | false=>
      rw [k] at h
      exact QV _ (e_ h)
theorem cx{i:Nat}{x f:Str}{p:Pos}(hK:X.K=K)(cl:qW K C)(na:bU K C f)(ho:PE X (.Name x p) (rB i))(hb:Rw (.Name x p) f X.env (PV (.Name x p) X.env)=PV (.Name x p) X.env):PE X (.Attribute (.Name x p) f pos) (jC K C (bR i f)):=(G5 ho hb).mono fun σ H Q h=>by
  subst hK
  obtain⟨F,e,as,r,e',R,hf,q⟩:=h
  unfold bR at hf
  split at hf
  case h_2=>cases hf
  case h_1 fs hl=>
  obtain⟨d,h1,hf⟩:=Pt hf
  cases hf
  obtain⟨_,v,g1,g2⟩:=R.obs _ (e_ hl)
  obtain⟨a,dx,gs,rfl,_,c1,c2,c3⟩:=g2
  obtain⟨u,d1,d2⟩:=c3.get h1
  exact⟨_,g1,a,C,dx,gs,u,rfl,c2,cl,na,d1,q F H u as cC.refl R d2⟩
end
inductive Kg where
  | nx (x:EX)
  | bk (x:EX)
  | ct (x:EX)
  | rt (r:PD) (x:EX)
abbrev XS:=EX→Option Kg
def oz(K:PF)(C:xM)(W:List Nat)(σ:L2.St)(F H:Hp)(e:En)(S:xM→Prop)(D:qX):Kg→Prop
  | .nx x=>∀F' H' σ' fp',cC W σ F H e S σ' F' H' x.1 (Fo x.2 fp')→bu K C F' H' σ' x.1 x.2 fp'→D.nx σ' H'
  | .bk x=>∀F' H' σ' fp',cC W σ F H e S σ' F' H' x.1 (Fo x.2 fp')→bu K C F' H' σ' x.1 x.2 fp'→D.bk σ' H'
  | .ct x=>∀F' H' σ' fp',cC W σ F H e S σ' F' H' x.1 (Fo x.2 fp')→bu K C F' H' σ' x.1 x.2 fp'→D.ct σ' H'
  | .rt r x=>∀F' H' σ' v fp',cC W σ F H e S σ' F' H' x.1 (Fo x.2 fp')→bu K C F' H' σ' x.1 x.2 fp'→DA K F' r v→D.rt v H'
def tO(K:PF)(C:xM)(f:XS)(W:List Nat):TS:=fun D σ H=>∃F x fp fl,bu K C F H σ x.1 x.2 fp∧f x=some fl∧oz K C W σ F H x.1 (Fo x.2 fp) D fl
theorem oz.later{K:PF}{C:xM}{W W1 W2:List Nat}{σ σ1:L2.St}{F H F1 H1:Hp}{e e1:En}{S S1:xM→Prop}{D:qX}{fl:Kg}(h:oz K C W σ F H e S D fl)(x:cC W1 σ F H e S σ1 F1 H1 e1 S1)(h1:∀j,j∈W1→j∈W)(h2:∀j,j∈W2→j∈W):oz K C W2 σ1 F1 H1 e1 S1 D fl:=by
  cases fl with
  | nx e'=>exact fun F' H' σ' fp y R=>h F' H' σ' fp ((x.mono h1).trans (y.mono h2)) R
  | bk e'=>exact fun F' H' σ' fp y R=>h F' H' σ' fp ((x.mono h1).trans (y.mono h2)) R
  | ct e'=>exact fun F' H' σ' fp y R=>h F' H' σ' fp ((x.mono h1).trans (y.mono h2)) R
  | rt r e'=>exact fun F' H' σ' v fp y R A=>h F' H' σ' v fp ((x.mono h1).trans (y.mono h2)) R A
section
variable{X:Cx}{K:PF}{C:xM}{W W1 W2:List Nat}{st:PN}{cH bs cs:List PN}{f g:XS}{f0:FS}{ft:XT}{fa:XE}{pos:Pos}{a c:PH}
def j3(W:List Nat)(ob:j2):Bool:=ob.all fun p=> !W.contains p.1.slot
theorem qe{ob:j2}(h:j3 W ob=true):∀p∈ob,p.1.slot∉W:=fun p hp z=>by
  have:=Qp.mp h p hp
  simp [z] at this
def dy(W:List Nat)(f:FS):XS:=fun x=>if j3 W x.2=true then(f x.1).bind fun fl=>match fl with
  | .nx e=>if okO x.2 e=true then some (.nx (e,x.2)) else none
  | .bk e=>if okO x.2 e=true then some (.bk (e,x.2)) else none
  | .ct e=>if okO x.2 e=true then some (.ct (e,x.2)) else none
  | .rt r e=>(iw r).bind fun d=>if okO x.2 e=true then some (.rt d (e,x.2)) else none else none
theorem C3{D:qX}{σ:L2.St}{H:Hp}(h:tO K C (dy W f0) W D σ H):fS K f0 W D σ H:=by
  obtain⟨F,x,fp,fl,R,hf,q⟩:=h
  unfold dy at hf
  split at hf
  case isFalse=>cases hf
  case isTrue hw=>
  have hw':=qe hw
  obtain⟨fl1,h1,hf⟩:=Pr hf
  refine⟨F,x.1,fl1,R.rel,h1,?_⟩
  cases fl1 with
  | rt r e=>
    obtain⟨d,h2,hf⟩:=Pr hf
    split at hf
    case isFalse=>cases hf
    case isTrue ho=>
    cases hf
    intro F' H' σ' v X' R' A'
    obtain⟨Y,R2⟩:=R.next X' hw' ho R'
    obtain⟨F2,Y2,R3,A⟩:=bu.toD Y R2 (fun _ z=>z) R.hn A' h2
    exact q F2 H' σ' v fp Y2 R3 A
  | nx e=>
    dsimp only at hf
    split at hf
    case isFalse=>cases hf
    case isTrue ho=>
    cases hf
    intro F' H' σ' X' R'
    obtain⟨Y,R2⟩:=R.next X' hw' ho R'
    exact q F' H' σ' fp Y R2
  | bk e=>
    dsimp only at hf
    split at hf
    case isFalse=>cases hf
    case isTrue ho=>
    cases hf
    intro F' H' σ' X' R'
    obtain⟨Y,R2⟩:=R.next X' hw' ho R'
    exact q F' H' σ' fp Y R2
  | ct e=>
    dsimp only at hf
    split at hf
    case isFalse=>cases hf
    case isTrue ho=>
    cases hf
    intro F' H' σ' X' R'
    obtain⟨Y,R2⟩:=R.next X' hw' ho R'
    exact q F' H' σ' fp Y R2
theorem ky(h:PS X st (fS K f0 W)):PS X st (tO K C (dy W f0) W):=h.mono fun _ _ _ h=>C3 h
def bY:XS:=fun x=>some (.nx x)
def bh(f g:XS):XS:=fun x=>(f x).bind fun fl=>match fl with
  | .nx x1=>g x1
  | fl=>some fl
theorem ee:kQ X [] (tO K C bY []):=yp.mono fun D σ H h=>by
  obtain⟨F,x,fp,fl,R,hf,q⟩:=h
  cases hf
  exact q F H σ fp cC.refl R
theorem aX(h1:PS X st (tO K C f W1))(h2:kQ X cH (tO K C g W2)):kQ X (st::cH) (tO K C (bh f g) (W1++W2)):=(qj h1 h2).mono fun D σ H h=>by
  obtain⟨F,e,fp,fl,R,hf,q⟩:=h
  unfold bh at hf
  obtain⟨fl1,h1,hf⟩:=Pr hf
  have s1:∀j,j∈W1→j∈W1++W2:=fun j h=>QU.mpr (.inl h)
  have s2:∀j,j∈W2→j∈W1++W2:=fun j h=>QU.mpr (.inr h)
  refine⟨F,e,fp,fl1,R,h1,?_⟩
  cases fl1 with
  | nx e1=>exact fun F' H' σ' fp' x R'=>⟨F',e1,fp',fl,R',hf,q.later x s1 s2⟩
  | bk e1=>cases hf;exact fun F' H' σ' fp' x R'=>q F' H' σ' fp' (x.mono s1) R'
  | ct e1=>cases hf;exact fun F' H' σ' fp' x R'=>q F' H' σ' fp' (x.mono s1) R'
  | rt r e1=>cases hf;exact fun F' H' σ' v fp' x R' A=>q F' H' σ' v fp' (x.mono s1) R' A
theorem bc(h1:PS X st (tO K C f W)):kQ X [st] (tO K C f W):=uk h1
def cL(ft:XT)(f g:XS):XS:=fun e=>(ft e).bind fun p=>if p.1=true then f p.2 else g p.2
theorem fQ(hc:PT X c (oy K C ft))(ha:kQ X bs (tO K C f W1))(hb:kQ X cs (tO K C g W2)):PS X (.If c bs cs pos) (tO K C (cL ft f g) (W1++W2)):=(EY hc ha hb).mono fun D σ H h=>by
  obtain⟨F,e,fp,fl,R,hf,q⟩:=h
  unfold cL at hf
  obtain⟨⟨x,e1⟩,h1,hf⟩:=Pr hf
  refine⟨F,e,fp,x,e1,R,h1,fun F1 H1 fp1 X1 R1=>?_⟩
  cases x with
  | true=>exact⟨F1,e1,fp1,fl,R1,hf,q.later (W1:=[]) X1 (fun j h=>by cases h) fun j h=>QU.mpr (.inl h)⟩
  | false=>exact⟨F1,e1,fp1,fl,R1,hf,q.later (W1:=[]) X1 (fun j h=>by cases h) fun j h=>QU.mpr (.inr h)⟩
def bI(fa:XE):XS:=fun e=>(fa e).map fun p=>.rt p.1 p.2
theorem cS(he:PE X a (jC K C fa)):PS X (.Return (some a) pos) (tO K C (bI fa) []):=(xw he).mono fun D σ H h=>by
  obtain⟨F,e,fp,fl,R,hf,q⟩:=h
  obtain⟨⟨x,e1⟩,h1,hf⟩:=Pt hf
  cases hf
  exact⟨F,e,fp,x,e1,R,h1,fun F1 H1 v fp1 X1 R1 A1=>q F1 H1 σ v fp1 X1 R1 A1⟩
def oM(i:Nat)(fa:XE):XS:=fun x=>(fa x).bind fun p=>if j3 [i] p.2.2=true then some (.nx (p.2.1.set i (some (.d p.1)),p.2.2)) else none
theorem bu.setD{F H:Hp}{σ:L2.St}{e:En}{ob:j2}{fp:Lc→List xM}{i:Nat}{x:PD}{v:V}(R:bu K C F H σ e ob fp)(h:DA K F x v)(hw:j3 [i] ob=true):
    cC [i] σ F H e (Fo ob fp) (σ.set i (some v)) F H (e.set i (some (.d x))) (Fo ob fp)∧bu K C F H (σ.set i (some v)) (e.set i (some (.d x))) ob fp:=by
  have hw':=qe hw
  obtain⟨R2,o2⟩:=R.rel.setD i h
  have ne:∀p∈ob,i≠p.1.slot:=fun p hp z=>hw' p hp (by rw [z];simp)
  refine⟨⟨ax.refl _,fun _ z=>z,fun _ _ z _ _ _=>z,fun _ vs z=>⟨vs,z⟩,fun _ _ z _ _=>z,fun a z=>.inl (z.imp_left (o2 a)),fun j n=>Ql (fun z=>n (by simp [z])),fun _ _ z _ _ _=>z⟩,R2,fun p hp=>?_,R.dis,fun a ha z=>R.own a ha (o2 a z)⟩
  obtain⟨c1,u,c2,c3⟩:=R.obs p hp
  exact⟨by rw [Ql (ne p hp)];exact c1,u,c2.mono (ax.refl _) (Ql (ne p hp)),c3⟩
theorem yz{i:Nat}{x:Str}{pos':Pos}(hN:X.N.Nodup)(hi:X.N[i]?=some x)(hx:Cv X.env.scope x)(he:PE X a (jC K C fa))(hs:RW a (some (.Name x pos')) pos.line X.env=pure false)(hf:X.fn x=true∨X.env.scope.names.lookup x=some .local):
    PS X (.Assign [.Name x pos'] a pos) (tO K C (oM i fa) [i]):=(uj hN hi hx he hs hf).mono fun D σ H h=>by
  obtain⟨F,e,fp,fl,R,hf,q⟩:=h
  unfold oM at hf
  obtain⟨⟨r,e1⟩,h1,hf⟩:=Pr hf
  split at hf
  case isFalse=>cases hf
  case isTrue hw=>
  cases hf
  refine⟨F,e,fp,r,e1,R,h1,fun F1 H1 v fp1 X1 R1 A1=>?_⟩
  obtain⟨Y,R2⟩:=R1.setD A1 hw
  exact q F1 H1 _ fp1 ((X1.mono (fun j h=>by cases h)).trans Y) R2
def ur(c:Lc)(o:Ob)(ob:j2):j2:=ob.map fun p=>if p.1=c then(p.1,o) else p
theorem ko{c:Lc}{o:Ob}{ob:j2}{p:Lc × Ob}:p∈ur c o ob↔ ∃q∈ob,p.1=q.1∧(if q.1=c then p.2=o else p.2=q.2):=by
  unfold ur
  rw [SH]
  constructor
  · rintro⟨q,h1,h2⟩
    refine⟨q,h1,?_⟩
    split at h2
    · rename_i z;subst h2;exact⟨rfl,by rw [if_pos z]⟩
    · rename_i z;subst h2;exact⟨rfl,by rw [if_neg z]⟩
  · rintro⟨q,h1,h2,h3⟩
    refine⟨q,h1,?_⟩
    obtain⟨p1,p2⟩:=p
    dsimp only at h2 h3
    split at h3
    · rename_i z;rw [if_pos z,h3,h2]
    · rename_i z;rw [if_neg z,h2,h3]
theorem bu.put{F H F' H':Hp}{σ:L2.St}{e:En}{ob:j2}{fp:Lc→List xM}{c:Lc}{o:Ob}{fs:List xM}(R:bu K C F H σ e ob fp)(hc:∃u,(c,u)∈ob)(sF:ax F F')(sm:ax F' H')(dom:∀a,H' a=none→H a=none)(lst:∀a vs,H a=some (.lst vs)→∃vs',H' a=some (.lst vs'))
    (tmp:∀a u,H a=some u→a∉fp c→H' a=some u)(fr:∀a,F a=none→(∃u,H a=some u∧(kept u=true∨ER u=true))→a∉fp c→F' a=none)(hfs:∀a∈fs,a∈fp c∨H a=none)(ho:∀v,nE K F σ c v→(∃u,oZ K C F H u v (fp c))→oZ K C F' H' o v fs):
    cC [] σ F H e (Fo ob fp) σ F' H' e (Fo (ur c o ob) fun d=>if d=c then fs else fp d)∧bu K C F' H' σ e (ur c o ob) fun d=>if d=c then fs else fp d:=by
  obtain⟨u,hu⟩:=hc
  have nc:∀a,cj σ e H a→a∉fp c:=fun a h z=>R.own a ⟨_,hu,z⟩ h
  obtain⟨R2,o2⟩:=R.rel.keep sF sm (fun a h=>by
    obtain⟨i,hi⟩:=h
    obtain⟨h1,vs,h2⟩:=R.rel.fpAt hi
    exact fr a h1 ⟨_,h2,.inl rfl⟩ (nc a ⟨i,hi⟩)) (fun a o h q=>tmp a o q (nc a h))
  have sub:∀a,Fo (ur c o ob) (fun d=>if d=c then fs else fp d) a→Fo ob fp a∨H a=none:=by
    rintro a ⟨p,hp,ha⟩
    obtain⟨q,h1,h2,h3⟩:=ko.mp hp
    rw [h2] at ha
    by_cases z:q.1=c
    · simp only [if_pos z] at ha
      rcases hfs a ha with w | w
      · exact .inl ⟨_,hu,w⟩
      · exact .inr w
    · simp only [if_neg z] at ha
      exact .inl ⟨q,h1,ha⟩
  refine⟨⟨sF,dom,fun a vs h1 h2 _ h4=>fr a h1 ⟨_,h2,.inl rfl⟩ fun z=>h4 ⟨_,hu,z⟩,lst,fun a u h1 _ h3=>tmp a u h1 fun z=>h3 ⟨_,hu,z⟩,fun a z=>?_,fun _ _=>rfl,fun a m h1 h2 _ h4=>fr a h1 ⟨_,h2,.inr m.2⟩ fun z=>h4 ⟨_,hu,z⟩⟩,R2,fun p hp=>?_,?_,fun a ha z=>?_⟩
  · rcases z with z | z
    · exact .inl (.inl ((o2 a).mp z))
    · exact(sub a z).imp_left .inr
  · obtain⟨q,h1,h2,h3⟩:=ko.mp hp
    obtain⟨c1,v,c2,c3⟩:=R.obs q h1
    rw [h2]
    refine⟨c1,v,c2.mono sF rfl,?_⟩
    by_cases z:q.1=c
    · rw [if_pos z] at h3
      simp only [if_pos z,h3]
      exact ho v (by rw [←z];exact c2) ⟨_,by rw [←z];exact c3⟩
    · rw [if_neg z] at h3
      simp only [if_neg z,h3]
      have nq:∀a∈fp q.1,a∉fp c:=fun a ha=>R.dis q h1 (c,u) hu z a ha
      refine c3.mono sF (fun a ha=>?_) fun a ha=>?_
      · obtain⟨g1,w,g2,g3⟩:=R.at ⟨q,h1,ha⟩
        exact fr a g1 ⟨w,g2,.inl g3⟩ (nq a ha)
      · obtain⟨g1,w,g2,g3⟩:=R.at ⟨q,h1,ha⟩
        rw [g2];exact tmp a w g2 (nq a ha)
  · intro p hp q hq hne a ha
    obtain⟨p0,h1,h2,_⟩:=ko.mp hp
    obtain⟨q0,g1,g2,_⟩:=ko.mp hq
    rw [h2] at ha hne
    rw [g2] at hne
    rw [g2]
    by_cases z:p0.1=c
    · simp only [if_pos z] at ha
      have z2:q0.1≠c:=fun z2=>hne (z.trans z2.symm)
      simp only [if_neg z2]
      intro w
      rcases hfs a ha with k | k
      · exact R.dis q0 g1 (c,u) hu z2 a w k
      · exact R.hn a ⟨q0,g1,w⟩ k
    · simp only [if_neg z] at ha
      by_cases z2:q0.1=c
      · simp only [if_pos z2]
        intro w
        rcases hfs a w with k | k
        · exact R.dis p0 h1 (c,u) hu z a ha k
        · exact R.hn a ⟨p0,h1,ha⟩ k
      · simp only [if_neg z2]
        exact R.dis p0 h1 q0 g1 hne a ha
  · rcases sub a ha with w | w
    · exact R.own a w ((o2 a).mp z)
    · exact R.rel.ownH a ((o2 a).mp z) w
def fm(i:Nat)(f:Str)(fa:XE):XS:=fun x=>(fa x).bind fun p=>match p.2.2.lookup (.s i) with
  | some (.dk fs)=>if fs.length < 900 then some (.nx (p.2.1,ur (.s i) (.dk (mS f p.1 fs)) p.2.2)) else none
  | _=>none
theorem iL{i:Nat}{x f:Str}{p pos':Pos}(hK:X.K=K)(cl:qW K C)(na:bU K C f)(ho:PE X (.Name x p) (rB i))(hv:PE X a (jC K C fa))(hs:RW a (some (.Attribute (.Name x p) f pos')) pos.line X.env=pure false):
    PS X (.Assign [.Attribute (.Name x p) f pos'] a pos) (tO K C (fm i f fa) []):=(Hd ho hv hs).mono fun D σ H h=>by
  subst hK
  obtain⟨F,e,fp,fl,R,hf,q⟩:=h
  unfold fm at hf
  obtain⟨⟨r,e1⟩,h1,hf⟩:=Pr hf
  dsimp only at hf
  split at hf
  case h_2=>cases hf
  case h_1 fs hl=>
  split at hf
  case isFalse=>cases hf
  case isTrue hlen=>
  cases hf
  refine⟨F,e,fp,r,e1,R,h1,fun F1 H1 v fp1 X1 R1 A1=>?_⟩
  have hm:=e_ hl
  obtain⟨_,u,g1,g2⟩:=R1.obs _ hm
  have g2':=g2
  obtain⟨a,dx,gs,rfl,ha,c1,c2,c3⟩:=g2
  refine⟨_,g1,a,C,dx,gs,rfl,c2,cl,na,by rw [c3.len];lia,?_⟩
  dsimp only at ha
  obtain⟨Y,R2⟩:=R1.put (c:=.s i) (o:=.dk (mS f r fs)) (fs:=[a]) (F':=F1) (H':=cy H1 a (.ins C dx (jd f v gs))) ⟨_,hm⟩ (ax.refl _)
    (fun b o z=>by
      have:b≠a:=fun w=>by rw [w,c1] at z;cases z
      rw [aY this];exact R1.rel.sm b o z)
    (fun b z=>by
      by_cases w:b=a
      · rw [w,aM] at z;cases z
      · rw [aY w] at z;exact z)
    (fun b vs z=>⟨vs,by
      have:b≠a:=fun w=>by rw [w,c2] at z;cases z
      rw [aY this];exact z⟩)
    (fun b u z w=>by
      rw [ha] at w
      have:b≠a:=fun k=>w (by simp [k])
      rw [aY this];exact z)
    (fun b z _ _=>z) (fun b hb=>.inl (by rw [ha];exact hb))
    (fun v' g1' _=>by
      have g1:σ[i]?=_:=g1
      have g1':σ[i]?=_:=g1'
      rw [g1] at g1';cases g1'
      exact⟨a,dx,_,rfl,rfl,c1,aM,c3.put A1⟩)
  exact q F1 _ σ _ (X1.trans Y) R2
end
section
variable{K:PF}{C:xM}{F H F' H':Hp}{σ:L2.St}{e:En}{ob ob':j2}{fp fp':Lc→List xM}
theorem bu.putM(R:bu K C F H σ e ob fp)(T:Lc→Prop)(hT:∀c,T c→∃u,(c,u)∈ob)(hob:∀p∈ob',∃q∈ob,p.1=q.1∧(¬T q.1→p.2=q.2))(hfp:∀c,¬T c→fp' c=fp c)(sF:ax F F')(sm:ax F' H')(dom:∀a,H' a=none→H a=none)(lst:∀a vs,H a=some (.lst vs)→∃vs',H' a=some (.lst vs'))
    (tmp:∀a u,H a=some u→(∀c,T c→a∉fp c)→H' a=some u)(fr:∀a,F a=none→(∃u,H a=some u∧(kept u=true∨ER u=true))→(∀c,T c→a∉fp c)→F' a=none)(hfs:∀c,T c→∀a∈fp' c,(∃d,T d∧a∈fp d)∨H a=none)
    (hdis:∀c d,T c→T d→c≠d→∀a∈fp' c,a∉fp' d)(ho:∀p∈ob',T p.1→∀v,nE K F σ p.1 v→oZ K C F' H' p.2 v (fp' p.1)):
    cC [] σ F H e (Fo ob fp) σ F' H' e (Fo ob' fp')∧bu K C F' H' σ e ob' fp':=by
  have nc:∀a,cj σ e H a→∀c,T c→a∉fp c:=fun a h c hc z=>let ⟨u,hu⟩:=hT c hc;R.own a ⟨_,hu,z⟩ h
  have nf:∀a,¬Fo ob fp a→∀c,T c→a∉fp c:=fun a h c hc z=>let ⟨u,hu⟩:=hT c hc;h ⟨_,hu,z⟩
  obtain⟨R2,o2⟩:=R.rel.keep sF sm (fun a h=>by
    obtain⟨i,hi⟩:=h
    obtain⟨h1,vs,h2⟩:=R.rel.fpAt hi
    exact fr a h1 ⟨_,h2,.inl rfl⟩ (nc a ⟨i,hi⟩)) (fun a o h q=>tmp a o q (nc a h))
  have sub:∀a,Fo ob' fp' a→Fo ob fp a∨H a=none:=by
    rintro a ⟨p,hp,ha⟩
    obtain⟨q,h1,h2,h3⟩:=hob p hp
    rw [h2] at ha
    by_cases z:T q.1
    · rcases hfs _ z a ha with ⟨d,w,k⟩ | w
      · obtain⟨u,hu⟩:=hT d w
        exact .inl ⟨_,hu,k⟩
      · exact .inr w
    · rw [hfp _ z] at ha
      exact .inl ⟨q,h1,ha⟩
  have dj:∀q∈ob,¬T q.1→∀a∈fp q.1,∀c,T c→a∉fp c:=fun q hq nT a ha c hc=>by
    obtain⟨u,hu⟩:=hT c hc
    exact R.dis q hq _ hu (fun z=>nT (by rw [z];exact hc)) a ha
  refine⟨⟨sF,dom,fun a vs h1 h2 _ h4=>fr a h1 ⟨_,h2,.inl rfl⟩ (nf a h4),lst,fun a u h1 _ h3=>tmp a u h1 (nf a h3),fun a z=>?_,fun _ _=>rfl,fun a m h1 h2 _ h4=>fr a h1 ⟨_,h2,.inr m.2⟩ (nf a h4)⟩,R2,fun p hp=>?_,?_,fun a ha z=>?_⟩
  · rcases z with z | z
    · exact .inl (.inl ((o2 a).mp z))
    · exact(sub a z).imp_left .inr
  · obtain⟨q,h1,h2,h3⟩:=hob p hp
    obtain⟨c1,v,c2,c3⟩:=R.obs q h1
    rw [h2]
    refine⟨c1,v,c2.mono sF rfl,?_⟩
    by_cases z:T q.1
    · have:=ho p hp (by rw [h2];exact z) v (by rw [h2];exact c2)
      rw [h2] at this
      exact this
    · rw [h3 z,hfp _ z]
      have nq:=dj q h1 z
      refine c3.mono sF (fun a ha=>?_) fun a ha=>?_
      · obtain⟨g1,w,g2,g3⟩:=R.at ⟨q,h1,ha⟩
        exact fr a g1 ⟨w,g2,.inl g3⟩ (nq a ha)
      · obtain⟨g1,w,g2,g3⟩:=R.at ⟨q,h1,ha⟩
        rw [g2];exact tmp a w g2 (nq a ha)
  · intro p hp q hq hne a ha
    obtain⟨p0,h1,h2,_⟩:=hob p hp
    obtain⟨q0,g1,g2,_⟩:=hob q hq
    rw [h2] at ha hne
    rw [g2] at hne
    rw [g2]
    by_cases z:T p0.1
    · by_cases z2:T q0.1
      · exact hdis _ _ z z2 hne a ha
      · rw [hfp _ z2]
        intro w
        rcases hfs _ z a ha with ⟨d,k,k2⟩ | k
        · exact dj q0 g1 z2 a w d k k2
        · exact R.hn a ⟨q0,g1,w⟩ k
    · rw [hfp _ z] at ha
      by_cases z2:T q0.1
      · intro w
        rcases hfs _ z2 a w with ⟨d,k,k2⟩ | k
        · exact dj p0 h1 z a ha d k k2
        · exact R.hn a ⟨p0,h1,ha⟩ k
      · rw [hfp _ z2]
        exact R.dis p0 h1 q0 g1 hne a ha
  · rcases sub a ha with w | w
    · exact R.own a w ((o2 a).mp z)
    · exact R.rel.ownH a ((o2 a).mp z) w
theorem bu.beside(R:bu K C F H σ e ob fp)(sF:ax F F')(sm:ax F' H')(dom:∀a,H' a=none→H a=none)(lst:∀a vs,H a=some (.lst vs)→∃vs',H' a=some (.lst vs'))(tmp:∀a u,H a=some u→H' a=some u)
    (fr:∀a,F a=none→(∃u,H a=some u∧(kept u=true∨ER u=true))→F' a=none):cC [] σ F H e (Fo ob fp) σ F' H' e (Fo ob fp)∧bu K C F' H' σ e ob fp:=
  R.putM (ob':=ob) (fp':=fp) (fun _=>False) (fun _ h=>h.elim) (fun p hp=>⟨p,hp,rfl,fun _=>rfl⟩) (fun _ _=>rfl) sF sm dom lst (fun a u h _=>tmp a u h) (fun a h1 h2 _=>fr a h1 h2) (fun _ h=>h.elim) (fun _ _ h=>h.elim) (fun _ _ h=>h.elim)
theorem si{ds:List PD}{i:Nat}{s:Sv}(h:((ds.map Sv.d).map some)[i]?=some (some s)):∃x,ds[i]?=some x∧s=.d x:=by
  rw [Qu,Qu] at h
  cases q:ds[i]? with
  | none=>rw [q] at h;cases h
  | some x=>rw [q] at h;cases h;exact⟨x,rfl,rfl⟩
theorem mL{ds:List PD}{σ:L2.St}{a:xM}:¬cj σ ((ds.map Sv.d).map some) H a:=by
  rintro⟨i,⟨xs,h,_⟩ | ⟨xss,_,_,h,_⟩⟩
  · obtain⟨x,_,z⟩:=si h;cases z
  · obtain⟨x,_,z⟩:=si h;cases z
theorem JO(s:ax F H){ds:List PD}{vs:List V}(h:aT K F ds vs):bj K F H (vs.map some) ((ds.map Sv.d).map some):=by
  refine⟨s,by simp [h.len],fun i x hx=>?_,fun i xs hx=>?_,fun i xss hx=>?_,fun i j a hi _=>absurd ⟨i,hi⟩ mL⟩
  · obtain⟨y,h1,h2⟩:=si hx
    cases h2
    obtain⟨v,g1,g2⟩:=h.get h1
    exact⟨v,by rw [Qu,g1];rfl,g2⟩
  · obtain⟨x,_,z⟩:=si hx;cases z
  · obtain⟨x,_,z⟩:=si hx;cases z
end
section
variable{X:Cx}{K:PF}{C:xM}{fs:XA}{a:PH}{es:List PH}{pos:Pos}{σ:L2.St}{H:Hp}
def nA(n:Nat)(m:FM)(fs:XA):XE:=fun x=>(fs x).bind fun p=>(m (p.1.map .d)).bind fun z=>if p.1.length=n∧p9 z.1=true then(iw z.1).map fun d=>(d,p.2) else none
theorem yR{n:Nat}{m:FM}{Q:VK}{E:XK}(h:jC K C (nA n m fs) σ H Q):sJ (eA K n m) [] E (CF K C fs) σ H Q:=by
  obtain⟨F,x,fp,z,x',R,hf,q⟩:=h
  unfold nA at hf
  obtain⟨⟨ds,x1⟩,h1,hf⟩:=Pr hf
  obtain⟨⟨r,as'⟩,h2,hf⟩:=Pr hf
  split at hf
  case isFalse=>cases hf
  case isTrue hc=>
  obtain⟨d,h3,hf⟩:=Pt hf
  cases hf
  refine⟨F,x,fp,ds,_,R,h1,fun F1 H1 vs fp1 X1 R1 A1=>?_⟩
  show eA K n m (vs++[]) H1 Q E
  rw [Rh]
  have hn:noS r:=by
    have:=hc.2
    cases r with
    | s i=>cases this
    | _=>trivial
  refine⟨by rw [←A1.len];exact hc.1,F1,ds.map .d,r,as',JO R1.rel.sm A1,fun i xss z=>(by obtain⟨x,_,z⟩:=si z;cases z),h2,hn,fun F' H' v X3 R3 A3=>?_⟩
  have stay:∀a u,H1 a=some u→H' a=some u:=fun a u hu=>X3.tmp a u hu mL
  obtain⟨Y,R4⟩:=R1.beside X3.sf R3.sm X3.dom X3.lst stay fun a g1 ⟨u,g2,g3⟩=>by
    by_cases k:ER u=true
    · exact X3.fd a ⟨u,k⟩ g1 g2 mL
    · rcases g3 with g3 | g3
      · cases u with
        | lst vs=>exact X3.fr a vs g1 g2 mL
        | ins c d fs=>exact absurd rfl k
        | _=>cases g3
      · exact absurd g3 k
  have ow:∀a,cj σ x1.1 H' a→H1 a≠none:=fun a z=>by
    rcases Y.own a (.inl z) with (w | w) | w
    · exact R1.rel.ownH a w
    · exact R1.hn a w
    · intro _
      exact R4.own a |> fun _=>by
        obtain⟨i,hi⟩:=z
        have:=(R1.rel.keep X3.sf R3.sm (fun a ⟨i,h⟩=>by
          obtain⟨c1,vs,c2⟩:=R1.rel.fpAt h
          exact X3.fr a vs c1 c2 mL) fun a o _ h=>stay a o h).2 a
        exact R1.rel.ownH a (this.mp ⟨i,hi⟩) w
  obtain⟨F4,Y4,R5,D⟩:=bu.toD Y R4 (fun _ z=>z) R1.hn (A3.noS hn ow) h3
  exact q F4 H' v _ (X1.trans Y4) R5 D
theorem Hk{x:Str}{st:PN}{f:xM}{fd:PZ}{ps:List Str}{k n:Nat}{m:FM}{p:Pos}(h:fy X.K X.mg x st f fd ps)(G:aP X.prog X.w X.K X.mg X.base cM k f fd ps (eA K n m))(hr:cg k X.A)(ha:PA X (a::es) (CF K C fs))
    (hg:Gl X x)(hdb:(x==("__debug__":Str))=false)(he:PU (a::es) X.env=(false,PV a X.env)::PU es X.env)(hpl:(Qf pos (PU es X.env)).any (·.1)=false):
    PE X (.Call (.Name x p) (a::es) [] pos) (jC K C (nA n m fs)):=(Jt h G hr ha hg hdb he hpl).mono fun _ _ _ h=>yR h
end
abbrev Ar:=Lc ⊕ PD
abbrev XR:=EX→Option (List Ar × EX)
def lB(K:PF)(F:Hp)(σ:L2.St):List Ar→List V→Prop
  | [],vs=>vs=[]
  | .inl c::r,vs=>∃v ws,vs=v::ws∧nE K F σ c v∧lB K F σ r ws
  | .inr d::r,vs=>∃v ws,vs=v::ws∧DA K F d v∧lB K F σ r ws
section
variable{K:PF}{C:xM}{F H F' H':Hp}{σ:L2.St}{e:En}{ob ob' oc:j2}{fp fp':Lc→List xM}
theorem lB.len:∀{rs:List Ar} {vs:List V},lB K F σ rs vs→rs.length=vs.length
  | [],vs,h=>by rw [show vs=[] from h];rfl
  | .inl c::r,_,⟨v,ws,e,h1,h2⟩=>by rw [e];simp [lB.len h2]
  | .inr d::r,_,⟨v,ws,e,h1,h2⟩=>by rw [e];simp [lB.len h2]
theorem lB.d:∀{rs:List Ar} {vs:List V} {k:Nat} {d:PD},lB K F σ rs vs→rs[k]?=some (.inr d)→∃v,vs[k]?=some v∧DA K F d v
  | [],_,k,d,_,h=>by simp at h
  | .inl c::r,_,k,d,⟨v,ws,e,h1,h2⟩,h=>by
    subst e
    cases k with
    | zero=>simp at h
    | succ k=>simpa using lB.d h2 (by simpa using h)
  | .inr d'::r,_,k,d,⟨v,ws,e,h1,h2⟩,h=>by
    subst e
    cases k with
    | zero=>simp at h;subst h;exact⟨v,rfl,h1⟩
    | succ k=>simpa using lB.d h2 (by simpa using h)
theorem lB.c:∀{rs:List Ar} {vs:List V} {k:Nat} {c:Lc},lB K F σ rs vs→rs[k]?=some (.inl c)→∃v,vs[k]?=some v∧nE K F σ c v
  | [],_,k,d,_,h=>by simp at h
  | .inl c'::r,_,k,c,⟨v,ws,e,h1,h2⟩,h=>by
    subst e
    cases k with
    | zero=>simp at h;subst h;exact⟨v,rfl,h1⟩
    | succ k=>simpa using lB.c h2 (by simpa using h)
  | .inr d'::r,_,k,c,⟨v,ws,e,h1,h2⟩,h=>by
    subst e
    cases k with
    | zero=>simp at h
    | succ k=>simpa using lB.c h2 (by simpa using h)
end
def o6(rs:List Ar):En:=rs.map fun r=>match r with
  | .inl _=>none
  | .inr d=>some (.d d)
def lN(ob:j2):Nat→List Ar→Option j2
  | _,[]=>some []
  | k,.inl c::r=>(ob.lookup c).bind fun o=>(lN ob (k+1) r).map ((Lc.s k,o)::·)
  | k,.inr _::r=>lN ob (k+1) r
def iK(oc:j2):Nat→List Ar→j2→Option j2
  | _,[],ob=>some ob
  | k,.inl c::r,ob=>(oc.lookup (.s k)).bind fun o=>iK oc (k+1) r (ur c o ob)
  | k,.inr _::r,ob=>iK oc (k+1) r ob
def locs:List Ar→List Lc
  | []=>[]
  | .inl c::r=>c::locs r
  | .inr _::r=>locs r
theorem ja{c:Lc}:∀{rs:List Ar},c∈locs rs↔ ∃k:Nat,rs[k]?=some (Sum.inl c)
  | []=>by simp [locs]
  | .inl d::r=>by
    simp only [locs,Qz,ja (rs:=r)]
    constructor
    · rintro(rfl | ⟨k,h⟩)
      · exact⟨0,rfl⟩
      · exact⟨k+1,by simpa using h⟩
    · rintro⟨k,h⟩
      cases k with
      | zero=>simp at h;exact .inl h.symm
      | succ k=>exact .inr ⟨k,by simpa using h⟩
  | .inr d::r=>by
    simp only [locs,ja (rs:=r)]
    constructor
    · rintro⟨k,h⟩
      exact⟨k+1,by simpa using h⟩
    · rintro⟨k,h⟩
      cases k with
      | zero=>simp at h
      | succ k=>exact⟨k,by simpa using h⟩
theorem k8{c:Lc}:∀{rs:List Ar} {k j:Nat},(locs rs).Nodup→rs[k]?=some (.inl c)→rs[j]?=some (.inl c)→k=j
  | [],k,j,_,h,_=>by simp at h
  | .inl d::r,k,j,hn,h1,h2=>by
    simp only [locs,Sd] at hn
    cases k with
    | zero=>
      simp at h1;subst h1
      cases j with
      | zero=>rfl
      | succ j=>exact absurd (ja.mpr ⟨j,by simpa using h2⟩) hn.1
    | succ k=>
      cases j with
      | zero=>simp at h2;subst h2;exact absurd (ja.mpr ⟨k,by simpa using h1⟩) hn.1
      | succ j=>exact congrArg (· +1) (k8 hn.2 (by simpa using h1) (by simpa using h2))
  | .inr d::r,k,j,hn,h1,h2=>by
    cases k with
    | zero=>simp at h1
    | succ k=>
      cases j with
      | zero=>simp at h2
      | succ j=>exact congrArg (· +1) (k8 (rs:=r) hn (by simpa using h1) (by simpa using h2))
theorem jc{ob:j2}{p:Lc × Ob}:∀{rs:List Ar} {k:Nat} {oc:j2},lN ob k rs=some oc→p∈oc→∃j c,p.1=.s (k+j)∧rs[j]?=some (.inl c)∧ob.lookup c=some p.2
  | [],k,oc,h,hp=>by cases h;cases hp
  | .inl c::r,k,oc,h,hp=>by
    obtain⟨o,h1,h⟩:=Pr h
    obtain⟨oc',h2,rfl⟩:=Pt h
    rcases Px hp with rfl | hp
    · exact⟨0,c,rfl,rfl,h1⟩
    · obtain⟨j,d,g1,g2,g3⟩:=jc h2 hp
      exact⟨j+1,d,by rw [g1];congr 1;lia,by simpa using g2,g3⟩
  | .inr d::r,k,oc,h,hp=>by
    obtain⟨j,d,g1,g2,g3⟩:=jc (rs:=r) (k:=k+1) h hp
    exact⟨j+1,d,by rw [g1];congr 1;lia,by simpa using g2,g3⟩
theorem qc{ob:j2}:∀{rs:List Ar} {k j:Nat} {oc:j2} {c:Lc},lN ob k rs=some oc→rs[j]?=some (.inl c)→∃o,ob.lookup c=some o∧(Lc.s (k+j),o)∈oc
  | [],k,j,oc,c,h,hj=>by simp at hj
  | .inl d::r,k,j,oc,c,h,hj=>by
    obtain⟨o,h1,h⟩:=Pr h
    obtain⟨oc',h2,rfl⟩:=Pt h
    cases j with
    | zero=>simp at hj;subst hj;exact⟨o,h1,RG⟩
    | succ j=>
      obtain⟨o',g1,g2⟩:=qc (j:=j) h2 (by simpa using hj)
      refine⟨o',g1,QV _ ?_⟩
      rw [show k+(j+1)=k+1+j by lia];exact g2
  | .inr d::r,k,j,oc,c,h,hj=>by
    cases j with
    | zero=>simp at hj
    | succ j=>
      obtain⟨o',g1,g2⟩:=qc (rs:=r) (k:=k+1) (j:=j) h (by simpa using hj)
      refine⟨o',g1,?_⟩
      rw [show k+(j+1)=k+1+j by lia];exact g2
theorem kW{oc:j2}{p:Lc × Ob}:∀{rs:List Ar} {k:Nat} {ob ob':j2},iK oc k rs ob=some ob'→p∈ob'→∃q∈ob,p.1=q.1∧((p.1∉locs rs∧p.2=q.2)∨∃j,rs[j]?=some (.inl p.1)∧oc.lookup (.s (k+j))=some p.2)
  | [],k,ob,ob',h,hp=>by cases h;exact⟨p,hp,rfl,.inl ⟨by simp [locs],rfl⟩⟩
  | .inl c::r,k,ob,ob',h,hp=>by
    obtain⟨o,h1,h⟩:=Pr h
    obtain⟨q,g1,g2,g3⟩:=kW h hp
    obtain⟨q',d1,d2,d3⟩:=ko.mp g1
    refine⟨q',d1,g2.trans d2,?_⟩
    rcases g3 with ⟨g3,g4⟩ | ⟨j,g3,g4⟩
    · by_cases z:q'.1=c
      · rw [if_pos z] at d3
        refine .inr ⟨0,?_,?_⟩
        · rw [g2,d2,z];rfl
        · rw [g4,d3];exact h1
      · rw [if_neg z] at d3
        refine .inl ⟨?_,g4.trans d3⟩
        simp only [locs,Qz]
        rintro(w | w)
        · exact z (by rw [←d2,←g2];exact w)
        · exact g3 w
    · exact .inr ⟨j+1,by simpa using g3,by rw [show k+(j+1)=k+1+j by lia];exact g4⟩
  | .inr d::r,k,ob,ob',h,hp=>by
    obtain⟨q,g1,g2,g3⟩:=kW (rs:=r) (k:=k+1) h hp
    refine⟨q,g1,g2,?_⟩
    rcases g3 with ⟨g3,g4⟩ | ⟨j,g3,g4⟩
    · exact .inl ⟨by simpa [locs] using g3,g4⟩
    · exact .inr ⟨j+1,by simpa using g3,by rw [show k+(j+1)=k+1+j by lia];exact g4⟩
abbrev MX:=EX→Option (PD × j2)
def uV(e:En):Bool:=e.all fun s=>match s with
  | some (.l _)=>false
  | some (.n _)=>false
  | _=>true
theorem fY{σ:L2.St}{H:Hp}{e:En}(h:uV e=true){a:xM}:¬cj σ e H a:=by
  rintro⟨i,⟨xs,z,_⟩ | ⟨xss,_,_,z,_⟩⟩
  · have:=Qp.mp h _ (Py z)
    cases this
  · have:=Qp.mp h _ (Py z)
    cases this
def rA(K:PF)(C:xM)(n:Nat)(m:MX):Sp:=fun vs H Q _=>vs.length=n∧∃F x fp r oc,bu K C F H (vs.map some) x.1 x.2 fp∧uV x.1=true∧m x=some (r,oc)∧
  ∀F' H' v fp',cC [] (vs.map some) F H x.1 (Fo x.2 fp) (vs.map some) F' H' x.1 (Fo oc fp')→bu K C F' H' (vs.map some) x.1 oc fp'→DA K F' r v→Q v H'
def FQ(K:PF)(C:xM)(f:XR):TA:=fun σ H Q=>∃F x fp rs x',bu K C F H σ x.1 x.2 fp∧f x=some (rs,x')∧∀F' H' vs fp',cC [] σ F H x.1 (Fo x.2 fp) σ F' H' x'.1 (Fo x'.2 fp')→bu K C F' H' σ x'.1 x'.2 fp'→lB K F' σ rs vs→Q vs H'
def bP(n:Nat)(m:MX)(fs:XR):XE:=fun x=>(fs x).bind fun p=>(lN p.2.2 0 p.1).bind fun oc=>(m (o6 p.1,oc)).bind fun z=>(iK z.2 0 p.1 p.2.2).bind fun ob'=>if p.1.length=n∧(locs p.1).Nodup then some (z.1,(p.2.1,ob')) else none
section
variable{K:PF}{C:xM}{σ:L2.St}{H:Hp}{fs:XR}
theorem jA{rs:List Ar}{k:Nat}{s:Option Sv}(h:(o6 rs)[k]?=some s):(∃c,rs[k]?=some (.inl c)∧s=none)∨∃d,rs[k]?=some (.inr d)∧s=some (.d d):=by
  unfold o6 at h
  rw [Qu] at h
  cases q:rs[k]? with
  | none=>rw [q] at h;cases h
  | some r=>
    rw [q] at h
    cases r with
    | inl c=>cases h;exact .inl ⟨c,rfl,rfl⟩
    | inr d=>cases h;exact .inr ⟨d,rfl,rfl⟩
theorem gk(rs:List Ar):uV (o6 rs)=true:=by
  refine Qp.mpr fun s hs=>?_
  obtain⟨k,hk⟩:=SY hs
  rcases jA hk with ⟨c,_,rfl⟩ | ⟨d,_,rfl⟩<;>rfl
theorem zM{n:Nat}{m:MX}{Q:VK}{E:XK}(h:jC K C (bP n m fs) σ H Q):sJ (rA K C n m) [] E (FQ K C fs) σ H Q:=by
  obtain⟨F,x,fp,z,x',R,hf,q⟩:=h
  unfold bP at hf
  obtain⟨⟨rs,x1⟩,h1,hf⟩:=Pr hf
  obtain⟨oc,h2,hf⟩:=Pr hf
  obtain⟨⟨r,oc'⟩,h3,hf⟩:=Pr hf
  obtain⟨ob',h4,hf⟩:=Pr hf
  dsimp only at hf
  split at hf
  case isFalse=>cases hf
  case isTrue hc=>
  cases hf
  obtain⟨hlen,hnd⟩:=hc
  refine⟨F,x,fp,rs,x1,R,h1,fun F1 H1 vs fp1 X1 R1 A1=>?_⟩
  show rA K C n m (vs++[]) H1 Q E
  rw [Rh]
  dsimp only at h2 h3 h4 hlen hnd
  let fc:Lc→List xM:=fun d=>match d with
    | .s k=>match rs[k]? with
      | some (.inl c)=>fp1 c
      | _=>[]
    | _=>[]
  have fcs:∀(k:Nat) (c:Lc),rs[k]?=some (Sum.inl c)→fc (.s k)=fp1 c:=fun k c hk=>by show(match rs[k]? with | some (.inl c)=>fp1 c | _=>[])=_;rw [hk]
  have lk:∀{k:Nat} {c:Lc},rs[k]?=some (Sum.inl c)→∃o,(c,o)∈x1.2∧(Lc.s k,o)∈oc:=fun{k c} hk=>by
    obtain⟨o,g1,g2⟩:=qc h2 hk
    exact⟨o,e_ g1,by simpa using g2⟩
  have foc:∀a,Fo oc fc a↔ ∃(k:Nat) (c:Lc),rs[k]?=some (Sum.inl c)∧a∈fp1 c:=fun a=>by
    constructor
    · rintro⟨p,hp,ha⟩
      obtain⟨j,c,g1,g2,g3⟩:=jc h2 hp
      rw [g1,Tp,fcs j c g2] at ha
      exact⟨j,c,g2,ha⟩
    · rintro⟨k,c,hk,ha⟩
      obtain⟨o,g1,g2⟩:=lk hk
      exact⟨_,g2,by rw [fcs k c hk];exact ha⟩
  have Rc:bu K C F1 H1 (vs.map some) (o6 rs) oc fc:=by
    refine⟨⟨R1.rel.sm,by unfold o6;simp [A1.len],fun i y hy=>?_,fun i ys hy=>?_,fun i ys hy=>?_,fun i j a hi _=>absurd ⟨i,hi⟩ (fY (gk rs))⟩,fun p hp=>?_,fun p hp p' hp' hne a ha=>?_,fun a _=>fY (gk rs)⟩
    · rcases jA hy with ⟨_,_,w⟩ | ⟨d,hk,w⟩
      · cases w
      · cases w
        obtain⟨v,g1,g2⟩:=A1.d hk
        exact⟨v,by rw [Qu,g1];rfl,g2⟩
    · rcases jA hy with ⟨_,_,w⟩ | ⟨_,_,w⟩<;>cases w
    · rcases jA hy with ⟨_,_,w⟩ | ⟨_,_,w⟩<;>cases w
    · obtain⟨j,c,g1,g2,g3⟩:=jc h2 hp
      rw [Tp] at g1
      rw [g1]
      refine⟨by show(o6 rs)[j]?=_;unfold o6;rw [Qu,g2];rfl,?_⟩
      obtain⟨v,c1,c2⟩:=A1.c g2
      obtain⟨_,v',d1,d2⟩:=R1.obs _ (e_ g3)
      refine⟨v,by show(vs.map some)[j]?=_;rw [Qu,c1];rfl,?_⟩
      rw [fcs j c g2]
      have:v=v':=c2.uniq d1
      rw [this];exact d2
    · obtain⟨j,c,g1,g2,g3⟩:=jc h2 hp
      obtain⟨j',c',g1',g2',g3'⟩:=jc h2 hp'
      rw [Tp] at g1 g1'
      rw [g1,fcs j c g2] at ha
      rw [g1',fcs j' c' g2']
      refine R1.dis _ (e_ g3) _ (e_ g3') (fun w=>hne ?_) a ha
      dsimp only at w
      subst w
      rw [g1,g1',k8 hnd g2 g2']
  refine⟨by rw [←A1.len];exact hlen,F1,(o6 rs,oc),fc,z,oc',Rc,gk rs,h3,fun F' H' v fq X3 R3 A3=>?_⟩
  have nO:∀a,¬cj (vs.map some) (o6 rs) H1 a:=fun a=>fY (gk rs)
  let T:Lc→Prop:=fun c=>c∈locs rs
  have Tk:∀c,T c→∃k:Nat,rs[k]?=some (Sum.inl c):=fun c h=>ja.mp h
  have kT:∀{k:Nat} {c:Lc},rs[k]?=some (Sum.inl c)→T c:=fun h=>ja.mpr ⟨_,h⟩
  classical
  let fn:Lc→List xM:=fun c=>if h:T c then(if (∃o,(Lc.s (Tk c h).choose,o)∈oc') then fq (.s (Tk c h).choose) else []) else fp1 c
  have fnk:∀(k:Nat) (c:Lc),rs[k]?=some (Sum.inl c)→(∃o,(Lc.s k,o)∈oc')→fn c=fq (.s k):=fun k c hk ho=>by
    have hT:=kT hk
    have:(Tk c hT).choose=k:=k8 hnd (Tk c hT).choose_spec hk
    show(if h:T c then _ else _)=_
    rw [dif_pos hT,this,if_pos ho]
  have fnm:∀c,T c→∀a∈fn c,∃k:Nat,rs[k]?=some (Sum.inl c)∧(∃o,(Lc.s k,o)∈oc')∧a∈fq (.s k):=fun c hT a ha=>by
    have:fn c=if (∃o,(Lc.s (Tk c hT).choose,o)∈oc') then fq (.s (Tk c hT).choose) else []:=dif_pos hT
    rw [this] at ha
    split at ha
    · rename_i ho;exact⟨_,(Tk c hT).choose_spec,ho,ha⟩
    · cases ha
  have toS:∀a,(∀c,T c→a∉fp1 c)→¬Fo oc fc a:=fun a h z=>by
    obtain⟨k,c,g1,g2⟩:=(foc a).mp z
    exact h c (kT g1) g2
  obtain⟨Y,R4⟩:=R1.putM (ob':=ob') (fp':=fn) (F':=F') (H':=H') T (fun c hT=>by
      obtain⟨k,hk⟩:=Tk c hT
      obtain⟨o,g1,_⟩:=lk hk
      exact⟨o,g1⟩) (fun p hp=>by
      obtain⟨q',g1,g2,g3⟩:=kW h4 hp
      refine⟨q',g1,g2,fun nT=>?_⟩
      rcases g3 with ⟨_,g3⟩ | ⟨j,g3,_⟩
      · exact g3
      · exact absurd (kT g3) (by rw [g2];exact nT)) (fun c nT=>dif_neg nT) X3.sf R3.rel.sm X3.dom X3.lst (fun a u hu hn=>X3.tmp a u hu (nO a) (toS a hn))
    (fun a g1 ⟨u,g2,g3⟩ hn=>by
      by_cases k:ER u=true
      · exact X3.fd a ⟨u,k⟩ g1 g2 (nO a) (toS a hn)
      · rcases g3 with g3 | g3
        · cases u with
          | lst us=>exact X3.fr a us g1 g2 (nO a) (toS a hn)
          | ins c d fs=>exact absurd rfl k
          | _=>cases g3
        · exact absurd g3 k)
    (fun c hT a ha=>by
      obtain⟨k,hk,⟨o,ho⟩,ha⟩:=fnm c hT a ha
      rcases X3.own a (.inr ⟨_,ho,ha⟩) with (w | w) | w
      · exact absurd w (nO a)
      · obtain⟨k',c',g1,g2⟩:=(foc a).mp w
        exact .inl ⟨c',kT g1,g2⟩
      · exact .inr w)
    (fun c d hT hT' hne a ha hb=>by
      obtain⟨k,hk,⟨o,ho⟩,ha⟩:=fnm c hT a ha
      obtain⟨j,hj,⟨o',ho'⟩,hb⟩:=fnm d hT' a hb
      refine R3.dis _ ho _ ho' (fun w=>hne ?_) a ha hb
      have:k=j:=Lc.s.inj w
      subst this
      rw [hk] at hj
      exact Sum.inl.inj (QO hj))
    (fun p hp hT w hw=>by
      obtain⟨q',g1,g2,g3⟩:=kW h4 hp
      rcases g3 with ⟨g3,_⟩ | ⟨j,g3,g4⟩
      · exact absurd hT g3
      · rw [Tp] at g4
        have hm:=e_ g4
        rw [fnk j _ g3 ⟨_,hm⟩]
        obtain⟨_,v',d1,d2⟩:=R3.obs _ hm
        have d1:(vs.map some)[j]?=some (some v'):=d1
        obtain⟨v2,c1,c2⟩:=A1.c g3
        rw [Qu,c1] at d1
        cases d1
        have:=c2.uniq hw
        rw [←this];exact d2)
  exact q F' H' v fn (X1.trans Y) R4 A3
end
section
variable{X:Cx}{K:PF}{C:xM}{fa:XE}{fs:XR}{a:PH}{es:List PH}{pos:Pos}
def dU:XR:=fun x=>some ([],x)
def eN(fa:XE)(fs:XR):XR:=fun x=>(fa x).bind fun p=>(fs p.2).map fun q=>(.inr p.1::q.1,q.2)
theorem lg:PA X [] (FQ K C dU):=lR.mono fun σ H Q h=>by
  obtain⟨F,e,fp,r,e',R,hf,q⟩:=h
  cases hf
  exact q F H [] fp cC.refl R rfl
theorem sx(ha:PE X a (jC K C fa))(hr:PA X es (FQ K C fs))(h:SX a=false):PA X (a::es) (FQ K C (eN fa fs)):=(Dx ha hr h).mono fun σ H Q h=>by
  obtain⟨F,e,fp,z,e2,R,hf,q⟩:=h
  unfold eN at hf
  obtain⟨⟨x,e1⟩,h1,hf⟩:=Pr hf
  obtain⟨⟨xs,e2'⟩,h2,hf⟩:=Pt hf
  cases hf
  refine⟨F,e,fp,x,e1,R,h1,fun F1 H1 v fp1 X1 R1 A1=>⟨F1,e1,fp1,xs,_,R1,h2,fun F2 H2 vs fp2 X2 R2 A2=>?_⟩⟩
  exact q F2 H2 (v::vs) fp2 (X1.trans X2) R2 ⟨v,vs,rfl,A1.mono X2.sf,A2⟩
end
def gu(n k:Nat)(W:List Nat)(f:XS):MX:=fun x=>if x.1.length=n∧(x.2.all fun p=>decide (p.1.slot < n))=true then(f (x.1++PX k none,x.2)).bind fun fl=>match fl with
    | .rt r y=>if j3 W (y.2.filter fun p=>decide (p.1.slot < n))=true∧okO (y.2.filter fun p=>decide (p.1.slot < n)) x.1=true then some (r,y.2.filter fun p=>decide (p.1.slot < n)) else none
    | .nx y=>if j3 W (y.2.filter fun p=>decide (p.1.slot < n))=true∧okO (y.2.filter fun p=>decide (p.1.slot < n)) x.1=true then some (.none,y.2.filter fun p=>decide (p.1.slot < n)) else none
    | _=>none
  else none
section
variable{P:PK}{w:PJ}{K:PF}{C:xM}{mg:Str→Option MG}{base:PL}
theorem JN{F F' H H':Hp}{σ:L2.St}{e:En}(R:bj K F H σ e)(h:uV e=true)(s:ax F F')(sm:ax F' H'):bj K F' H' σ e:=by
  have no:∀{i:Nat} {s:Sv},e[i]?=some (some s)→(∃x,s=.d x):=fun{i s} z=>by
    have:=Qp.mp h _ (Py z)
    cases s with
    | d x=>exact⟨x,rfl⟩
    | l x=>cases this
    | n x=>cases this
  refine⟨sm,R.len,fun i x hx=>let ⟨v,h1,h2⟩:=R.dat i x hx;⟨v,h1,h2.mono s⟩,fun i xs hx=>?_,fun i xs hx=>?_,fun i j a hi _=>absurd ⟨i,hi⟩ (fY h)⟩
  · obtain⟨x,z⟩:=no hx;cases z
  · obtain⟨x,z⟩:=no hx;cases z
theorem uE.okY{x qual:Str}{st:PN}{f:xM}{fd:PZ}{N ps:List Str}{k n k0:Nat}{W:List Nat}{fb:XS}(hF:uE K x qual st f fd)(S:az N ps (ar st))(hn:ps.length=n)(hN:N.length=n+k0)
    (hb:∀(cdv:MG) (A:PP) (outer:List Env) (s:PB) (H:Hp) (E:XK),cg k (A.deeper (envOfC qual (ar st) s.heap.objs.size f cdv))→kQ (uT cM P w K mg base N qual (ar st) f cdv A outer s H E).nox (cO st) (tO K C fb W)):
    aP P w K mg base cM (k+1) f fd ps (rA K C n (gu n k0 W fb)):=by
  refine hF.ok S (fun vs H Q E q=>?_) fun cdv A outer s H vs Q E hr hsp=>⟨_,hb cdv A outer s H E hr,?_⟩
  · rw [hn];exact q.1
  · obtain⟨hl,F,x,fp,r,oc,R,hd,hm,q⟩:=hsp
    unfold gu at hm
    split at hm
    case isFalse=>cases hm
    case isTrue hc=>
    obtain⟨la,lo⟩:=hc
    obtain⟨fl,h1,hm⟩:=Pr hm
    have hst:iP N vs=vs.map some++PX k0 none:=by unfold iP;rw [hN,hl];congr 2;lia
    rw [hst]
    have lt:∀p∈x.2,p.1.slot < n:=fun p hp=>by simpa using Qp.mp lo p hp
    have gv:∀j,j < n→(vs.map some++PX k0 none)[j]?=(vs.map some)[j]?:=fun j hj=>RC (by rw [Qh,hl];exact hj)
    have ge:∀j,j < n→(x.1++PX k0 none)[j]?=x.1[j]?:=fun j hj=>RC (by rw [la];exact hj)
    have lcp:∀{F:Hp} {σ σ':L2.St} {c:Lc} {v:V},nE K F σ c v→σ'[c.slot]?=σ[c.slot]?→nE K F σ' c v:=fun h e=>h.mono (ax.refl _) e
    have Rp:bu K C F H (vs.map some++PX k0 none) (x.1++PX k0 none) x.2 fp:=⟨R.rel.pad,fun p hp=>by
      obtain⟨c1,v,c2,c3⟩:=R.obs p hp
      exact⟨by rw [ge _ (lt p hp)];exact c1,v,lcp c2 (gv _ (lt p hp)),c3⟩,R.dis,fun a ha z=>R.own a ha (hZ.mp z)⟩
    have key:∀{y:EX},j3 W (y.2.filter fun p=>decide (p.1.slot < n))=true∧okO (y.2.filter fun p=>decide (p.1.slot < n)) x.1=true→∀F' H' σ' fp',cC W (vs.map some++PX k0 none) F H (x.1++PX k0 none) (Fo x.2 fp) σ' F' H' y.1 (Fo y.2 fp')→bu K C F' H' σ' y.1 y.2 fp'→
        cC [] (vs.map some) F H x.1 (Fo x.2 fp) (vs.map some) F' H' x.1 (Fo (y.2.filter fun p=>decide (p.1.slot < n)) fp')∧bu K C F' H' (vs.map some) x.1 (y.2.filter fun p=>decide (p.1.slot < n)) fp':=by
      intro y hk F' H' σ' fp' X' R'
      have sub:∀a,Fo (y.2.filter fun p=>decide (p.1.slot < n)) fp' a→Fo y.2 fp' a:=fun a ⟨p,hp,ha⟩=>⟨p,(RV.mp hp).1,ha⟩
      refine⟨⟨X'.sf,X'.dom,fun a us h1 h2 hn=>X'.fr a us h1 h2 fun z=>hn (hZ.mp z),X'.lst,fun a o ha hn=>X'.tmp a o ha fun z=>hn (hZ.mp z),fun a z=>?_,fun _ _=>rfl,fun a m h1 h2 hn=>X'.fd a m h1 h2 fun z=>hn (hZ.mp z)⟩,
        ⟨JN R.rel hd X'.sf R'.rel.sm,fun p hp=>?_,fun p hp q hq=>R'.dis p (RV.mp hp).1 q (RV.mp hq).1,fun a ha=>fY hd⟩⟩
      · rcases z with z | z
        · exact absurd z (fY hd)
        · exact(X'.own a (.inr (sub a z))).imp_left fun w=>w.imp_left hZ.mp
      · have hp':=RV.mp hp
        have hs:p.1.slot < n:=by simpa using hp'.2
        obtain⟨_,v,c2,c3⟩:=R'.obs p hp'.1
        exact⟨A0 hk.2 hp,v,lcp c2 (by rw [X'.wr _ (qe hk.1 p hp),gv _ hs]),c3⟩
    refine⟨F,(x.1++PX k0 none,x.2),fp,fl,Rp,h1,?_⟩
    cases fl with
    | bk e'=>cases hm
    | ct e'=>cases hm
    | nx y=>
      dsimp only at hm
      split at hm
      case isFalse=>cases hm
      case isTrue hk=>
      cases hm
      intro F' H' σ' fp' X' R'
      obtain⟨X2,R2⟩:=key hk F' H' σ' fp' X' R'
      exact q F' H' .non fp' X2 R2 ((gW (K:=K) (F:=F')).mpr rfl)
    | rt r0 y=>
      dsimp only at hm
      split at hm
      case isFalse=>cases hm
      case isTrue hk=>
      cases hm
      intro F' H' σ' v fp' X' R' A'
      obtain⟨X2,R2⟩:=key hk F' H' σ' fp' X' R'
      exact q F' H' v fp' X2 R2 A'
end
section
variable{X:Cx}{K:PF}{C:xM}{W W1 W2:List Nat}{f:XS}{ft:XT}{pos:Pos}
noncomputable def uX(W1:List Nat)(g:FG)(f:XS):List PD→EX→Option Kg
  | [],x=>some (.nx x)
  | d::r,x=>if j3 W1 x.2=true then(g d x.1).bind fun e1=>if okO x.2 e1=true then(f (e1,x.2)).bind fun fl=>match fl with
      | .nx x2=>uX W1 g f r x2
      | .ct x2=>uX W1 g f r x2
      | .bk x2=>some (.nx x2)
      | .rt v x2=>some (.rt v x2)
    else none else none
noncomputable def oK(W1:List Nat)(fi:FI)(g:FG)(f:XS):XS:=fun x=>(fi x.1).bind fun p=>if p.2.1.isEmpty=true∧okO x.2 p.2.2=true then uX W1 g f p.1 (p.2.2,x.2) else none
inductive Fs (K:PF) (C:xM) (F1:Hp) (P:EX→Prop) (G:L2.St→Hp→Hp→En→(xM→Prop)→Prop) (σ:L2.St) (H:Hp):Prop
  | mk {F:Hp} {x:EX} {fp:Lc→List xM} (R:bu K C F H σ x.1 x.2 fp) (sF:ax F1 F) (hf:P x) (q:G σ F H x.1 (Fo x.2 fp)):Fs K C F1 P G σ H
theorem yx{tg iter:PH}{body:List PN}{fi:FI}{gg:FG}(hp:PassesOwn (PQ X.prog X.w) X.A X.env X.xe)(hc:X.calm=true)(hi:PI X tg iter (fI K fi))(hg:PG X tg (fG K gg W1))(hb:kQ X body (tO K C f W2))(hs:∀x,SN iter X.env x=pure x):
    PS X (.For tg iter body [] pos) (tO K C (oK W1 fi gg f) (W1++W2)):=(Bg hp hc hi hg hb hs).mono fun D σ0 H0 hh=>by
  obtain⟨F0,x0,fp0,fl,R0,hf,q0⟩:=hh
  unfold oK at hf
  obtain⟨⟨items,own,e1⟩,hI,hf⟩:=Pr hf
  dsimp only at hf
  split at hf
  case isFalse=>cases hf
  case isTrue ho=>
  obtain⟨ho,hok⟩:=ho
  have ho:=List.isEmpty_iff.mp ho
  subst ho
  refine⟨F0,x0.1,items,[],e1,R0.rel,hI,fun J F1 H1 X1 R1 kp ok=>?_⟩
  have s1:∀j,j∈W1→j∈W1++W2:=fun j h=>QU.mpr (.inl h)
  have s2:∀j,j∈W2→j∈W1++W2:=fun j h=>QU.mpr (.inr h)
  have s0:∀j,j∈([]:List Nat)→j∈W1++W2:=fun j h=>by cases h
  obtain⟨Y1,R1X⟩:=R0.pure X1 R1 hok
  have q1:oz K C (W1++W2) σ0 F1 H1 e1 (Fo x0.2 fp0) D fl:=q0.later (W1:=[]) Y1 s0 fun j h=>h
  refine⟨fun k m σ H=>m=items.length - k∧k≤items.length∧Fs K C F1 (fun x=>uX W1 gg f (items.drop k) x=some fl) (fun σ F H e S=>oz K C (W1++W2) σ F H e S D fl) σ H,
    ⟨items.length,by simp,Sb _,.mk (x:=(e1,x0.2)) R1X (ax.refl _) hf q1⟩,?_⟩
  rintro k m σ H ⟨rfl,hk,⟨R,sF,hf,q⟩⟩
  rename_i F x fp
  obtain⟨go,stop,yld⟩:=ok F H sF R.rel.sm (fun p hp=>by cases hp)
  by_cases hlt:k < items.length
  · have hd:items.drop k=items[k]::items.drop (k+1):=TZ hlt
    rw [hd] at hf
    unfold uX at hf
    split at hf
    case isFalse=>cases hf
    case isTrue hw=>
    obtain⟨e2,h2,hf⟩:=Pr hf
    split at hf
    case isFalse=>cases hf
    case isTrue hok2=>
    obtain⟨fl2,h3,hf⟩:=Pr hf
    refine .inr ⟨go k hlt,Fs K C F1 (fun x=>uX W1 gg f (items.drop (k+1)) x=some fl) (fun σ F H e S=>oz K C (W1++W2) σ F H e S D fl),
      fun σ' H' r=>⟨items.length - (k+1),by lia,rfl,hlt,r⟩,fun y H' hy=>?_⟩
    obtain⟨F',sH,sF',sm',fz,hx⟩:=yld k items[k] y H' (Rk hlt) hy
    obtain⟨R',X'⟩:=R.rel.step sH sF' sm' fz
    obtain⟨Y2,R2X⟩:=R.pure0 X' R'
    refine⟨F',_,items[k],e2,R',hx,h2,fun σ2 x2 R2=>?_⟩
    obtain⟨Y3,R3X⟩:=R2X.next x2 (qe hw) hok2 R2
    refine⟨F',(e2,x.2),fp,fl2,R3X,h3,?_⟩
    have q2:oz K C (W1++W2) σ2 F' H' e2 (Fo x.2 fp) D fl:=(q.later (W1:=[]) (W2:=W1++W2) Y2 s0 fun j h=>h).later Y3 s1 fun j h=>h
    cases fl2 with
    | nx x3=>exact fun F3 H3 σ3 fp3 y3 R3=>.mk R3 (sF.trans (sF'.trans y3.sf)) hf (q2.later y3 s2 fun j h=>h)
    | ct x3=>exact fun F3 H3 σ3 fp3 y3 R3=>.mk R3 (sF.trans (sF'.trans y3.sf)) hf (q2.later y3 s2 fun j h=>h)
    | bk x3=>
      cases hf
      exact fun F3 H3 σ3 fp3 y3 R3=>q2 F3 H3 σ3 fp3 (y3.mono s2) R3
    | rt r x3=>
      cases hf
      exact fun F3 H3 σ3 v fp3 y3 R3 A3=>q2 F3 H3 σ3 v fp3 (y3.mono s2) R3 A3
  · have hd:items.drop k=[]:=UB (by lia)
    rw [hd] at hf
    cases hf
    exact .inl ⟨stop k (by lia),q F H σ fp cC.refl R⟩
end
section
variable{X:Cx}{K:PF}{a b:PH}{es:List PH}{fa fb:FE}{fs:FA}{pos apos cpos p2:Pos}{lo hi:Option PH}
def JL:V→Option Int→Option Int→Hp→VK→Prop:=fun x lo hi H Q=>∃y,x=.str y∧y.length≤PY∧Q (.str (QI y lo hi)) H
theorem qf{v:MG}{o:Option Int}(h:IsPart v o):∃l:Option (Int × Tok),v=partValue l∧o=l.map (·.1):=by
  cases h with
  | none=>exact⟨none,rfl,rfl⟩
  | int i t=>exact⟨some (i,t),rfl,rfl⟩
theorem BY:Ci X JL:=by
  intro pins s σ H x v vl vu lo hi sl Q I rx hs pl pu h
  obtain⟨y,rfl,hz,q⟩:=h
  obtain⟨t,rfl⟩:=rx
  obtain⟨l,rfl,rfl⟩:=qf pl
  obtain⟨u,rfl,rfl⟩:=qf pu
  refine⟨"str",_,F.slot_str_getitem.lookup,SR _ _ _,wpAny_getItem_str_slice (l:=l) (u:=u) (st:=none) hs rfl ?_⟩
  refine post_val_or_str ⟨Qq (Txt.slice_le y (l.map (·.1)) (u.map (·.1))) hz,fun t' k=>⟨.str _,H,I.tok _,⟨_,rfl⟩,q⟩⟩
def gN(fa:FE)(fl fh:FO):FE:=fun e=>(fa e).bind fun p=>(fl p.2).bind fun l=>(fh l.2).bind fun h=>(bJ p.1).bind fun y=>if y.length≤1000000 then some (.d (.str (QI y l.1 h.1)),h.2) else none
theorem gy{fl fh:FO}(he:PE X a (fE K fa))(hl:PO X lo (fO K fl))(hh:PO X hi (fO K fh)):PE X (.Subscript a (.Slice lo hi none p2) pos) (fE K (gN fa fl fh)):=(qh BY he hl hh).mono fun σ H Q h=>by
  obtain⟨F,e,z,e',R,hf,q⟩:=h
  unfold gN at hf
  obtain⟨⟨x,e1⟩,h1,hf⟩:=Pr hf
  obtain⟨⟨l,e2⟩,h2,hf⟩:=Pr hf
  obtain⟨⟨u,e3⟩,h3,hf⟩:=Pr hf
  obtain⟨y,h4,hf⟩:=Pr hf
  split at hf
  case isFalse=>cases hf
  case isTrue hz=>
  cases hf
  refine⟨F,e,x,e1,R,h1,fun F1 H1 v X1 R1 A1=>⟨F1,e1,l,e2,R1,h2,fun F2 H2 X2 R2=>⟨F2,e2,u,_,R2,h3,fun F3 H3 X3 R3=>?_⟩⟩⟩
  have sl:PY=16777216:=QC
  exact⟨y,cX ((A1.ext X2).ext X3) h4,by lia,q F3 H3 _ ((X1.trans X2).trans X3) R3 kz⟩
def iy:En→Rv→Option Rv:=fun _ x=>(bJ x).bind fun y=>if y.length≤640 then(Tq y).map fun n=>.d (.int n) else none
def Bz:V→Hp→VK→Prop:=fun v H Q=>∃y n,v=.str y∧y.length≤640∧Tq y=some n∧Q (.int n) H
theorem wD:dX X (.type "int") (fun xs H Q=>∃v,xs=[v]∧Bz v H Q):=by
  intro pins s σ H xs us Q I r h
  obtain⟨v,rfl,y,n,rfl,h1,h2,q⟩:=h
  obtain⟨u,rfl,ru⟩:=jK r
  obtain⟨t,rfl⟩:=ru
  exact PySem.W.KIN.call_text h2 h1 ⟨.int n,H,I.tok _,⟨_,rfl⟩,q⟩
theorem CO:dS K (fun xs H Q=>∃v,xs=[v]∧Bz v H Q) (g1 iy):=fU fun σ H0 F H e x z v Q R A hg q=>by
  unfold iy at hg
  obtain⟨y,h1,hg⟩:=Pr hg
  split at hg
  case isFalse=>cases hg
  case isTrue hl=>
  obtain⟨n,h2,hg⟩:=Pt hg
  cases hg
  exact⟨v,rfl,y,n,cX A h1,hl,h2,q F H _ (dY.refl _ _ _ _) R (show DA K F (.int n) (.int n) from cA.mpr rfl)⟩
theorem xY:lC X K "int" (g1 iy):=⟨.inr ⟨_,_,wD,CO,PyProof.Rows.boot_int⟩⟩
def dW:En→Rv→Option Rv:=fun _ x=>(bJ x).bind fun y=>if y.length≤1000000 then some (.d (.int y.length)) else none
theorem wF:dX X (.builtin "len") (fun xs H Q=>∃v,xs=[v]∧∃y:Str,v=.str y∧y.length≤1000000∧Q (.int y.length) H):=by
  intro pins s σ H xs us Q I r h
  obtain⟨v,rfl,y,rfl,h1,q⟩:=h
  obtain⟨u,rfl,ru⟩:=jK r
  obtain⟨t,rfl⟩:=ru
  exact len_str (by lia) ⟨.int _,H,I.tok _,⟨_,rfl⟩,q⟩
theorem C0:dS K (fun xs H Q=>∃v,xs=[v]∧∃y:Str,v=.str y∧y.length≤1000000∧Q (.int y.length) H) (g1 dW):=fU fun σ H0 F H e x z v Q R A hg q=>by
  unfold dW at hg
  obtain⟨y,h1,hg⟩:=Pr hg
  split at hg
  case isFalse=>cases hg
  case isTrue hl=>
  cases hg
  exact⟨v,rfl,y,cX A h1,hl,q F H _ (dY.refl _ _ _ _) R (show DA K F (.int _) (.int _) from cA.mpr rfl)⟩
theorem tf:lC X K "len" (g1 dW):=⟨.inl ⟨_,_,wF,C0,PySem.boot_len⟩⟩
def HB:V→List V→Hp→VK→Prop:=fun x vs H Q=>∃y z:Str,x=.str y∧vs=[.str z]∧(z.length==0)=false∧y.length+2≤PY∧∀l,H l=none→Q (.ref l) (cy H l (.lst ((Rr y z).map V.str)))
theorem oV:∀{l:List (Str × Tok)},aV ((l.map (·.1)).map V.str) (strValues l)
  | []=>.nil
  | p::r=>.cons ⟨p.2,rfl⟩ (oV (l:=r))
theorem AG:Ib X "str.split" HB:=by
  intro pins s σ H x xs v us Q I rx rs h
  obtain⟨y,z,rfl,rfl,hz,hl,q⟩:=h
  obtain⟨t,rfl⟩:=rx
  obtain⟨w,rfl,rw0⟩:=jK rs
  obtain⟨u,rfl⟩:=rw0
  have key:∀(l:List (Str × Tok)) (k:Nat),l.map (·.1)=Rr y z→EP X pins σ Q (.ref s.heap.objs.size) {s with heap:=s.heap.push {cls:=.type "list",data:=.seq (strValues l).toArray},toks:=k}:=fun l k hk=>by
    have hlen:l.length≤PY:=by
      have h1:l.length=(Rr y z).length:=by rw [←hk,Qh]
      have h2:(Rr y z).length≤y.length+2:=by
        unfold Rr
        split
        · simp
        · split
          · simp
          · have e1:=StrLaws.occ_length_le y z 0 y.length (y.length+1)
            rw [length_partsBetween];lia
      lia
    refine⟨.ref s.heap.objs.size,_,I.laid (t':=k) (o:=.lst ((Rr y z).map V.str)) (fun b ob q=>Qs _ q) (Qc _) ?_,rfl,q _ (I.hok.fresh (Qc _))⟩
    refine⟨by rw [Qh,←hk,Qh];exact hlen,strValues l,0,by rw [←hk];exact oV,QL _ rfl⟩
  have hn:(Builtin.Str.partsBetween y (UE y z 0 y.length (y.length+1)) z.length).length≤PY:=by
    have e1:=StrLaws.occ_length_le y z 0 y.length (y.length+1)
    rw [length_partsBetween];lia
  cases h1:(decide (y.length < z.length) || decide (Builtin.Str.strKind y < Builtin.Str.strKind z))
  · cases hf:(UE y z 0 y.length (y.length+1)).isEmpty
    · refine RD Uc (SR _ _ _) F.entry_str_split (F.args_str_split_2 _ _) (meets_str_split_sep y z t u h1 hz hf (by lia) hn) ?_
      show EP X pins σ Q _ {s with toks:=_,heap:=s.heap.push {cls:=.type "list",data:=.seq (strsFrom s.toks (Builtin.Str.partsBetween y (UE y z 0 y.length (y.length+1)) z.length)).toArray}}
      rw [strsFrom_eq]
      exact key (numbered s.toks _) _ ((numbered_texts _ _).trans ((if_neg (ne_true_of_eq_false h1)).trans (if_neg (ne_true_of_eq_false hf))).symm)
    · exact RD Uc (SR _ _ _) F.entry_str_split (F.args_str_split_2 _ _) (meets_str_split_not_found y z t u h1 hz hf)
        (key [(y,t)] s.toks ((if_neg (ne_true_of_eq_false h1)).trans (if_pos hf)).symm)
  · exact RD Uc (SR _ _ _) F.entry_str_split (F.args_str_split_2 _ _) (meets_str_split_cannot_occur y z t u h1)
      (key [(y,t)] s.toks (if_pos h1).symm)
def iB:En→Rv→Rv→Option Rv:=fun _ x y=>(bJ x).bind fun u=>(bJ y).bind fun v=>if v.length≠0∧u.length≤1000000 then some (.l ((Rr u v).map .str)) else none
theorem pL{F:Hp}:∀(ys:List Str),aT K F (ys.map .str) (ys.map V.str)
  | []=>aT.nil
  | y::ys=>.cons (jy.mpr rfl) (pL ys)
theorem DU(ha:PE X a (fE K fa))(hb:PE X b (fE K fb))(hbase:Rw a "split" X.env (PV a X.env)=PV a X.env)
    (hfew:((Qf cpos (PU [b] X.env)).all (fun x=> !x.1)&&(Rz cpos (RB [] X.env)).all (fun x=>x.1.isSome)&&decide (([b]:List PH).length+([]:List QQ).length+(if ([]:List QQ).isEmpty then 0 else 1) < 30))=true)
    (hline:(apos.endLine==cpos.line)=true)(hs:PU [b] X.env=(false,PV b X.env)::PU [] X.env)(hplain:(Qf cpos (PU [] X.env)).any (·.1)=false):
    PE X (.Call (.Attribute a "split" apos) [b] [] cpos) (fE K (aw iB fa fb)):=
  (A8 UD Uc PySem.F.type_str_split AG ha (mP hb lR hs) hbase hfew hline hs hplain).mono fun σ H Q h=>by
    obtain⟨F,e,r,e',R,hf,q⟩:=h
    unfold aw at hf
    obtain⟨⟨x,e1⟩,h1,hf⟩:=Pr hf
    obtain⟨⟨y,e2⟩,h2,hf⟩:=Pr hf
    obtain⟨z,h3,hf⟩:=Pt hf
    cases hf
    unfold iB at h3
    obtain⟨u,g1,h3⟩:=Pr h3
    obtain⟨v,g2,h3⟩:=Pr h3
    split at h3
    case isFalse=>cases h3
    case isTrue hc=>
    cases h3
    refine⟨F,e,x,e1,R,h1,fun F1 H1 w X1 R1 A1=>?_⟩
    have ew:=cX A1 g1
    refine⟨?_,F1,e1,y,_,R1,h2,fun F2 H2 w2 X2 R2 A2=>?_⟩
    · rw [ew];trivial
    have ew2:=cX A2 g2
    have sl:PY=16777216:=QC
    refine⟨u,v,ew,by rw [ew2],by simpa using hc.1,by lia,fun l hl=>?_⟩
    obtain⟨R3,X3,hF,no⟩:=R2.newL (vs:=(Rr u v).map V.str) hl
    exact q F2 _ _ ((X1.trans X2).trans X3) R3 ⟨l,_,rfl,X1.dom _ (X2.dom _ hl),hF,aM,pL _,no⟩
def Hx:V→List V→Hp→VK→Prop:=fun x vs H Q=>∃y,x=.str y∧vs=[]∧Q (.bl (RY y)) H
theorem GE:Ib X "str.isdecimal" Hx:=by
  intro pins s σ H x xs v us Q I rx rs h
  obtain⟨y,rfl,rfl,q⟩:=h
  obtain⟨t,rfl⟩:=rx
  have:=rs.zero
  subst this
  exact PySem.SC.isdecimal ⟨.bl _,H,I,rfl,q⟩
def nP:En→Rv→Option Rv:=fun _ x=>(bJ x).map fun u=>.d (.bool (RY u))
theorem Jy(ha:PE X a (fE K fa))(hbase:Rw a "isdecimal" X.env (PV a X.env)=PV a X.env)(hline:(apos.endLine==cpos.line)=true):PE X (.Call (.Attribute a "isdecimal" apos) [] [] cpos) (fE K (qV nP fa)):=
  (G4 UD PySem.F.slot_str_isdecimal PySem.F.type_str_isdecimal GE ha hbase hline).mono fun σ H Q h=>by
    obtain⟨F,e,r,e',R,hf,q⟩:=h
    unfold qV at hf
    obtain⟨⟨x,e1⟩,h1,hf⟩:=Pr hf
    obtain⟨z,h3,hf⟩:=Pt hf
    cases hf
    obtain⟨u,g1,rfl⟩:=Pt h3
    refine⟨F,e,x,_,R,h1,fun F1 H1 w X1 R1 A1=>?_⟩
    have ew:=cX A1 g1
    exact⟨by rw [ew];trivial,u,ew,rfl,q F1 H1 _ X1 R1 fj⟩
end
section
variable{X:Cx}{K:PF}{C:xM}{fa fb:XE}{fs:XR}{a b:PH}{es:List PH}{cH:List PN}{pos apos p p2:Pos}
def gM(i:Nat)(nm:Str)(fs:XR):XR:=fun x=>match x.2.lookup (.s i) with
  | some (.dk gs)=>if (gs.lookup nm).isNone=true then(fs x).map fun q=>(.inl (.s i)::q.1,q.2) else none
  | _=>none
theorem sR{i n:Nat}{nm:Str}{m:MX}{σ:L2.St}{H:Hp}{Q:VK}{E:XK}(h:jC K C (bP n m (gM i nm fs)) σ H Q):B2 C nm (rA K C n m) [] E (rB i) (FQ K C fs) σ H Q:=by
  obtain⟨F,x,fp,rs,x',R,hf,q⟩:=(zM (E:=E) h:FQ K C (gM i nm fs) σ H fun vs H1=>rA K C n m (vs++[]) H1 Q E)
  unfold gM at hf
  split at hf
  case h_2=>cases hf
  case h_1 gs hl=>
  split at hf
  case isFalse=>cases hf
  case isTrue hn=>
  obtain⟨⟨rs1,x2⟩,h1,hf⟩:=Pt hf
  cases hf
  obtain⟨_,v,g1,g2⟩:=R.obs _ (e_ hl)
  obtain⟨ad,dx,hs,rfl,_,c1,c2,c3⟩:=g2
  refine⟨.ref ad,g1,ad,dx,hs,rfl,c2,c3.none (Option.isNone_iff_eq_none.mp hn),F,x,fp,rs1,_,R,h1,fun F2 H2 vs fp2 X2 R2 A2=>?_⟩
  exact q F2 H2 (.ref ad::vs) fp2 X2 R2 ⟨.ref ad,vs,rfl,g1,A2⟩
theorem lc{i k n:Nat}{x nm:Str}{f:xM}{fd:PZ}{ps:List Str}{m:MX}{pl:Sem Bool}(hK:X.K=K)(ho:PE X (.Name x p) (rB i))(cl:qW K C)(hm:nF K C nm f)(G:aP X.prog X.w X.K X.mg X.base cM k f fd ps (rA K C n m))(hr:cg k X.A)(hb:eQ X.K fd ps [])(ha:PA X (a::es) (FQ K C fs))
    (hst:PU (a::es) X.env=(false,PV a X.env)::PU es X.env)(hpl:(Qf pos (PU es X.env)).any (·.1)=false)
    (ht:PV (.Call (.Attribute (.Name x p) nm apos) (a::es) [] pos) X.env=(do
      let ov ←PV (.Name x p) X.env
      RH apos.atName
      let (f,first) ←Rm [ov] (getMethod ov nm pl)
      callWith pos f first (Qf pos (PU (a::es) X.env)) (Rz pos (RB [] X.env)))):
    PE X (.Call (.Attribute (.Name x p) nm apos) (a::es) [] pos) (jC K C (bP n m (gM i nm fs))):=by
  subst hK
  exact(DE ho cl hm G hr hb .nil vD ha hst hpl ht).mono fun _ _ _ h=>sR h
theorem Bn{i k n:Nat}{x nm:Str}{f:xM}{fd:PZ}{ps:List Str}{m:MX}{pl:Sem Bool}(hK:X.K=K)(ho:PE X (.Name x p) (rB i))(cl:qW K C)(hm:nF K C nm f)(G:aP X.prog X.w X.K X.mg X.base cM k f fd ps (rA K C n m))(hr:cg k X.A)(hb:eQ X.K fd ps [])
    (ht:PV (.Call (.Attribute (.Name x p) nm apos) [] [] pos) X.env=(do
      let ov ←PV (.Name x p) X.env
      RH apos.atName
      let (f,first) ←Rm [ov] (getMethod ov nm pl)
      callWith pos f first (Qf pos (PU [] X.env)) (Rz pos (RB [] X.env)))):
    PE X (.Call (.Attribute (.Name x p) nm apos) [] [] pos) (jC K C (bP n m (gM i nm dU))):=by
  subst hK
  refine(A_ ho cl hm G hr hb .nil vD ht).mono fun σ H Q h=>?_
  obtain⟨v,g1,ad,dx,hs,e1,e2,e3,F,x,fp,rs,x',R,hf,q⟩:=sR (E:=E0) h
  cases hf
  exact⟨v,g1,ad,dx,hs,e1,e2,e3,q F H [] fp cC.refl R rfl⟩
theorem Bo{lo hi:Option PH}{l h:Option Int}(hK:X.K=K)(he:PE X a (jC K C fa))(hl:PO X lo (fO K fun e=>some (l,e)))(hh:PO X hi (fO K fun e=>some (h,e))):PE X (.Subscript a (.Slice lo hi none p2) pos) (jC K C (Et fa l h)):=by
  subst hK
  refine(qh JT he hl hh).mono fun σ H Q hh'=>?_
  obtain⟨F,x,fp,r,x',R,hf,q⟩:=hh'
  unfold Et at hf
  obtain⟨⟨d,x1⟩,h1,hf⟩:=Pr hf
  obtain⟨z,h2,hf⟩:=Pr hf
  obtain⟨d2,h3,hf⟩:=Pt hf
  cases hf
  refine⟨F,x,fp,d,_,R,h1,fun F1 H1 v fp1 X1 R1 A1=>⟨F1,_,_,_,R1.rel,rfl,fun F2 H2 X2 R2=>⟨F2,_,_,_,R2,rfl,fun F3 H3 X3 R3=>?_⟩⟩⟩
  obtain⟨Y2,R2X⟩:=R1.pure0 X2 R2
  obtain⟨Y3,R3X⟩:=R2X.pure0 X3 R3
  have A3:cK X.K σ H3 F3 H3 x1.1 (.d d) v:=A1.mono (X2.sf.trans X3.sf)
  unfold CL at h2
  obtain⟨⟨k,ds⟩,g1,g2⟩:=Pt h2
  obtain⟨pp,vs,rfl,B,S⟩:=cV R3 A3 g1
  cases k with
  | true=>
    have g2':Rv.l (cutD ds l h)=z:=by simpa using g2
    subst g2'
    refine .inr (.inr ⟨pp,vs,rfl,S,fun b hb=>?_⟩)
    obtain⟨R4,X4,hF,no⟩:=R3.newL (vs:=o5 vs l h) hb
    obtain⟨Y4,R4X⟩:=R3X.pure0 X4 R4
    obtain⟨F5,Y5,R5,D5⟩:=bu.toD (H1:=H3) Y4 R4X (fun _ z=>z) R3X.hn (show cK X.K σ H3 F3 _ _ (.l (cutD ds l h)) (.ref b) from⟨b,_,rfl,hb,hF,aM,tL B l h,no⟩) h3
    exact q F5 _ _ _ (((X1.trans Y2).trans Y3).trans Y5) R5 D5
  | false=>
    have g2':Rv.d (.tuple (cutD ds l h))=z:=by simpa using g2
    subst g2'
    cases h3
    by_cases hw:HT.sIx vs.length 0 l=0∧HT.sIx vs.length vs.length h=vs.length
    · refine .inr (.inl ⟨pp,vs,rfl,S,hw,?_⟩)
      have e5:cutD ds l h=ds:=by unfold cutD;exact x9 (by rw [B.len];exact hw)
      rw [e5] at q
      obtain⟨F4,R4,X4,hF⟩:=R3.growT (ax.refl _) S
      obtain⟨Y4,R4X⟩:=R3X.pure0 X4 R4
      exact q _ _ _ _ (((X1.trans Y2).trans Y3).trans Y4) R4X (eC.mpr ⟨pp,vs,rfl,hF,B.mono X4.sf⟩)
    · refine .inl ⟨pp,vs,rfl,S,hw,fun b hb=>?_⟩
      obtain⟨R4,X4⟩:=R3.newT (vs:=o5 vs l h) hb
      obtain⟨Y4,R4X⟩:=R3X.pure0 X4 R4
      exact q _ _ _ _ (((X1.trans Y2).trans Y3).trans Y4) R4X (eC.mpr ⟨b,_,rfl,.inl (.inl aM),(tL B l h).mono X4.sf⟩)
def B'(y:Str)(fb:XE):XE:=fun x=>(fb x).bind fun p=>match p.1 with
  | .int i=>if i.natAbs.log2 < 1900∧y.length≤1000∧((toString i:String):Str).length≤1000 then some (.str (RJ++y++(toString i:String)),p.2) else none
  | _=>none
theorem Jx{y:Str}{j:Nat}{p0 p1:Pos}(hb:PE X b (jC K C fb)):PE X (.JoinedStr [.Constant (.str y) j p0,.FormattedValue b (-1) none p1] pos) (jC K C (B' y fb)):=fun pins s σ H Q I h=>by
  obtain⟨F,x,fp,r,x',R,hf,q⟩:=h
  unfold B' at hf
  obtain⟨⟨d,x1⟩,h1,hf⟩:=Pr hf
  dsimp only at hf
  split at hf
  case h_2=>cases hf
  case h_1 i=>
  split at hf
  case isFalse=>cases hf
  case isTrue hc=>
  cases hf
  have e0:(RJ).length=0:=rfl
  have l1:(RJ++y).length=y.length:=by rw [pZ,e0];lia
  refine JoinedStr_many (joinParts_cons (cZ (@xq X y j p0 pins s σ H (fun v H1=>v=.str y∧H1=H) I ⟨rfl,rfl⟩) fun v s1 ⟨xv,H1,I1,rv1,ex,eh⟩=>?_))
  subst ex
  subst eh
  obtain⟨t1,rfl⟩:=rv1
  refine⟨by rw [l1,QC];lia,joinParts_cons (FormattedValue_plain (cZ (hb pins s1 σ H1 _ I1 ⟨F,x,fp,_,x',R,h1,fun F2 H2 v fp2 X2 R2 A2=>(⟨cA.mp A2,F2,fp2,X2,R2⟩:v=.int i∧∃F2 fp2,cC [] σ F H1 x.1 (Fo x.2 fp) σ F2 H2 x'.1 (Fo x'.2 fp2)∧bu K C F2 H2 σ x'.1 x'.2 fp2)⟩) fun v s2 ⟨yv,H2,I2,rv2,ey,F2,fp2,X2,R2⟩=>?_))⟩
  subst ey
  obtain⟨t2,rfl⟩:=rv2
  have hl2:=hc.2.2
  refine formatField_int_small (by lia) ⟨by rw [pZ,l1,QC];lia,joinParts_nil ⟨.str _,H2,(I2.tok _).tok _,⟨_,rfl⟩,q F2 H2 _ fp2 X2 R2 (jy.mpr rfl)⟩ (by rw [pZ,l1,QC];lia)⟩
end
theorem D3{K:PF}{F H:Hp}(sm:ax F H){rs:List Ar}{vs:List V}(hl:rs.length=vs.length)(hd:∀(k:Nat) (d:PD),rs[k]?=some (.inr d)→∃v,vs[k]?=some v∧DA K F d v):bj K F H (vs.map some) (o6 rs):=by
  refine⟨sm,by unfold o6;simp [hl],fun i y hy=>?_,fun i ys hy=>?_,fun i ys hy=>?_,fun i j a hi _=>absurd ⟨i,hi⟩ (fY (gk rs))⟩
  · rcases jA hy with ⟨_,_,w⟩ | ⟨d,hk,w⟩
    · cases w
    · cases w
      obtain⟨v,g1,g2⟩:=hd _ _ hk
      exact⟨v,by rw [Qu,g1];rfl,g2⟩
  · rcases jA hy with ⟨_,_,w⟩ | ⟨_,_,w⟩<;>cases w
  · rcases jA hy with ⟨_,_,w⟩ | ⟨_,_,w⟩<;>cases w
section
variable{K:PF}{C:xM}{F H F' H':Hp}{σ:L2.St}{e:En}{ob:j2}{fp:Lc→List xM}{i:Nat}
def AV(i:Nat)(ob:j2):j2:=ob.filter fun p=> !(p.1.slot==i)
theorem bu.fresh(R:bu K C F H σ e ob fp){v:V}{o:Ob}{fs:List xM}(sF:ax F F')(sm:ax F' H')(dom:∀a,H' a=none→H a=none)(tmp:∀a u,H a=some u→H' a=some u)
    (fr:∀a,F a=none→(∃u,H a=some u∧(kept u=true∨ER u=true))→F' a=none)(hi:i < e.length)(hfs:∀a∈fs,H a=none)(ho:oZ K C F' H' o v fs):
    cC [i] σ F H e (Fo ob fp) (σ.set i (some v)) F' H' (e.set i none) (Fo ((.s i,o)::AV i ob) fun c=>if c=.s i then fs else fp c)∧bu K C F' H' (σ.set i (some v)) (e.set i none) ((.s i,o)::AV i ob) fun c=>if c=.s i then fs else fp c:=by
  obtain⟨R2,o2⟩:=R.rel.keep sF sm (fun a h=>by
    obtain⟨j,hj⟩:=h
    obtain⟨h1,vs,h2⟩:=R.rel.fpAt hj
    exact fr a h1 ⟨_,h2,.inl rfl⟩) (fun a o h q=>tmp a o q)
  have R3:=(R2.drop i).poke (some v)
  have o3:∀a,cj (σ.set i (some v)) (e.set i none) H' a→cj σ e H a:=fun a ⟨j,z⟩=>(o2 a).mp (cj.drop ⟨j,my.mp z⟩)
  have mo:∀{p},p∈AV i ob→p∈ob∧p.1.slot≠i:=fun{p} h=>by
    obtain⟨h1,h2⟩:=RV.mp h
    exact⟨h1,by simpa using h2⟩
  have ne:∀{p:Lc × Ob},p.1.slot≠i→p.1≠.s i:=fun h z=>h (by rw [z];rfl)
  have sub:∀a,Fo ((.s i,o)::AV i ob) (fun c=>if c=.s i then fs else fp c) a→Fo ob fp a∨H a=none:=by
    rintro a ⟨p,hp,ha⟩
    rcases Px hp with rfl | hp
    · simp only [if_true] at ha;exact .inr (hfs a ha)
    · obtain⟨h1,h2⟩:=mo hp
      simp only [if_neg (ne h2)] at ha
      exact .inl ⟨p,h1,ha⟩
  refine⟨⟨sF,dom,fun a vs h1 h2 _ _=>fr a h1 ⟨_,h2,.inl rfl⟩,fun a vs h=>⟨vs,tmp a _ h⟩,fun a u h _ _=>tmp a u h,fun a z=>?_,fun j n=>Ql (fun z=>n (by simp [z])),fun a m h1 h2 _ _=>fr a h1 ⟨_,h2,.inr m.2⟩⟩,R3,fun p hp=>?_,?_,fun a ha z=>?_⟩
  · rcases z with z | z
    · exact .inl (.inl (o3 a z))
    · exact(sub a z).imp_left .inr
  · rcases Px hp with rfl | hp
    · refine⟨Ru hi,v,?_,by simpa using ho⟩
      show(σ.set i (some v))[i]?=_
      exact Ru (by rw [R.rel.len];exact hi)
    · obtain⟨h1,h2⟩:=mo hp
      obtain⟨c1,u,c2,c3⟩:=R.obs p h1
      refine⟨by rw [Ql (QN h2)];exact c1,u,c2.mono sF (Ql (QN h2)),?_⟩
      simp only [if_neg (ne h2)]
      refine c3.mono sF (fun a ha=>?_) fun a ha=>?_
      · obtain⟨g1,w,g2,g3⟩:=R.at ⟨p,h1,ha⟩
        exact fr a g1 ⟨w,g2,.inl g3⟩
      · obtain⟨g1,w,g2,g3⟩:=R.at ⟨p,h1,ha⟩
        rw [g2];exact tmp a w g2
  · intro p hp q hq hne a ha hb
    rcases Px hp with rfl | hp
    · simp only [if_true] at ha
      rcases Px hq with rfl | hq
      · exact hne rfl
      · obtain⟨h1,h2⟩:=mo hq
        simp only [if_neg (ne h2)] at hb
        exact R.hn a ⟨q,h1,hb⟩ (hfs a ha)
    · obtain⟨h1,h2⟩:=mo hp
      simp only [if_neg (ne h2)] at ha
      rcases Px hq with rfl | hq
      · simp only [if_true] at hb
        exact R.hn a ⟨p,h1,ha⟩ (hfs a hb)
      · obtain⟨g1,g2⟩:=mo hq
        simp only [if_neg (ne g2)] at hb
        exact R.dis p h1 q g1 hne a ha hb
  · rcases sub a ha with w | w
    · exact R.own a w (o3 a z)
    · exact R.rel.ownH a (o3 a z) w
end
section
variable{X:Cx}{K:PF}{C:xM}{fa fb:XE}{fs:XR}{f0:FS}{a b:PH}{es:List PH}{cH:List PN}{pos apos p p2:Pos}{W:List Nat}
def BJ(i:Nat)(m:MX)(fa:XE):XS:=fun x=>(fa x).bind fun p=>(m ([none,some (.d p.1)],[(.s 0,.dk [])])).bind fun z=>match z with
  | (.none,[(.s 0,.dk fs)])=>if i < p.2.1.length then some (.nx (p.2.1.set i none,(.s i,.dk fs)::AV i p.2.2)) else none
  | _=>none
theorem Bu{i k:Nat}{x y:Str}{f:xM}{fd:PZ}{ps:List Str}{m:MX}{pos' cpos:Pos}(hK:X.K=K)(M:Mk K C f)(G:aP X.prog X.w X.K X.mg X.base cM k f fd ps (rA K C 2 m))(hr:cg (k+1) X.A)(hg:Gl X y)(hm:X.mg y=some (.ref C))(hb:eQ X.K fd ps [])(ha:PE X a (jC K C fa))
    (hN:X.N.Nodup)(hi:X.N[i]?=some x)(hx:Cv X.env.scope x)(hst:SX a=false)(hdb:(y==("__debug__":Str))=false)(he:PU [a] X.env=(false,PV a X.env)::PU [] X.env)(hpl:(Qf cpos (PU [] X.env)).any (·.1)=false)
    (hs:RW (.Call (.Name y p) [a] [] cpos) (some (.Name x pos')) pos.line X.env=pure false)(hf:X.fn x=true∨X.env.scope.names.lookup x=some .local):
    PS X (.Assign [.Name x pos'] (.Call (.Name y p) [a] [] cpos) pos) (tO K C (BJ i m fa) [i]):=by
  subst hK
  refine(uj hN hi hx (DD M G hr hg hm hb .nil vD (Dx ha lR hst) hdb he hpl) hs hf).mono fun D σ H h=>?_
  obtain⟨F,x,fp,fl,R,hf,q⟩:=h
  unfold BJ at hf
  obtain⟨⟨d,x1⟩,h1,hf⟩:=Pr hf
  obtain⟨⟨r,oc⟩,h2,hf⟩:=Pr hf
  dsimp only at hf h2
  split at hf
  case h_2=>cases hf
  case h_1 fs heq=>
  cases heq
  split at hf
  case isFalse=>cases hf
  case isTrue hlt=>
  cases hf
  refine⟨F,x,fp,d,x1,R,h1,fun F1 H1 v fp1 X1 R1 A1=>fun o dx ho hdx hne=>?_⟩
  show rA X.K C 2 m (.ref o::([v]++[])) _ _ _
  let H2:Hp:=cy (cy H1 dx (.own o)) o (.ins C dx [])
  have up:∀a u,H1 a=some u→H2 a=some u:=fun a u z=>by
    have n1:a≠o:=fun w=>by rw [w,ho] at z;cases z
    have n2:a≠dx:=fun w=>by rw [w,hdx] at z;cases z
    show cy (cy H1 dx _) o _ a=_
    rw [aY n1,aY n2];exact z
  have dn:∀a,H2 a=none→H1 a=none:=fun a z=>by
    cases w:H1 a with
    | none=>rfl
    | some u=>rw [up a u w] at z;cases z
  have sm2:ax F1 H2:=fun a u z=>up a u (R1.rel.sm a u z)
  have fo:F1 o=none:=R1.rel.freeF ho
  have Rc:bu X.K C F1 H2 ([V.ref o,v].map some) (o6 [.inl (.s 0),.inr d]) [(.s 0,.dk [])] fun _=>[o]:=by
    refine⟨D3 sm2 rfl fun k d' hk=>?_,fun p hp=>?_,fun p hp q hq hne=>?_,fun a _=>fY (gk _)⟩
    · match k,hk with
      | 1,hk=>cases hk;exact⟨v,rfl,A1⟩
    · rw [RP] at hp
      subst hp
      exact⟨rfl,.ref o,rfl,o,dx,[],rfl,rfl,fo,aM,rfl⟩
    · rw [RP] at hp hq
      subst hp;subst hq
      exact absurd rfl hne
  refine⟨rfl,F1,(o6 [.inl (.s 0),.inr d],[(.s 0,.dk [])]),_,_,_,Rc,gk _,h2,fun F' H' w fq X3 R3 A3=>⟨gW.mp A3,?_⟩⟩
  have nO:∀a,¬cj ([V.ref o,v].map some) (o6 [.inl (.s 0),.inr d]) H2 a:=fun a=>fY (gk _)
  have nS:∀a u,H1 a=some u→¬Fo [((Lc.s 0:Lc),Ob.dk [])] (fun _=>[o]) a:=fun a u z=>by
    rintro⟨p,_,hp⟩
    rw [RP] at hp
    rw [hp,ho] at z;cases z
  obtain⟨_,u,g1,g2⟩:=R3.obs _ (RP.mpr rfl)
  have g1:some (some (V.ref o))=some (some u):=g1
  cases g1
  have g2':=g2
  obtain⟨o',dx',gs,e1,e2,e3,e4,e5⟩:=g2
  cases e1
  obtain⟨Y,R4⟩:=R1.fresh (i:=i) (v:=.ref o) (o:=.dk fs) (fs:=[o]) (F':=F') (H':=H') X3.sf R3.rel.sm (fun a z=>dn a (X3.dom a z)) (fun a u z=>X3.tmp a u (up a u z) (nO a) (nS a u z))
    (fun a g1 ⟨u,g2,g3⟩=>by
      by_cases k:ER u=true
      · exact X3.fd a ⟨u,k⟩ g1 (up a u g2) (nO a) (nS a u g2)
      · rcases g3 with g3 | g3
        · cases u with
          | lst us=>exact X3.fr a us g1 (up a _ g2) (nO a) (nS a _ g2)
          | ins c d fs=>exact absurd rfl k
          | _=>cases g3
        · exact absurd g3 k) hlt (fun a ha=>by rw [RP] at ha;rw [ha];exact ho) ⟨o,dx',gs,rfl,rfl,e3,e4,e5⟩
  exact q F' H' _ _ ((X1.mono (fun j h=>by cases h)).trans Y) R4
end
section
variable{X:Cx}{K:PF}{C:xM}{f0:FS}{cH:List PN}{pos p p1 p2 p3:Pos}{W:List Nat}
end
structure Ie (K:PF) (w:PJ) (a:xM) (ms:List (Str × xM)):Prop where
  at_:∃es n,K.lookup a=some ⟨.type "dict",none,.dict es n,#[]⟩∧Paired (fun(e:Sj) (p:Str × xM)=>e.hash=hashStr w p.1∧(∃t,e.key=.str p.1 t)∧e.val=.ref p.2) es.toList ms
  nod:(ms.map (·.1)).Nodup
  sys:(a==sysModules)=false
theorem oj(x:Str):∀(ms:List (Str × xM)),valueAt (ms.map fun p=>((Sum.inr p.1:j1),Value.ref p.2)) (Sum.inr x)=(ms.lookup x).map Value.ref
  | []=>rfl
  | (y,a)::r=>by
    rw [Qw,Qk]
    unfold valueAt
    rw [List.find?_cons]
    cases c:x==y with
    | true=>
      rw [show decide ((Sum.inr y:j1)=Sum.inr x)=true from decide_eq_true (by rw [eq_of_beq c])]
      rfl
    | false=>
      rw [show decide ((Sum.inr y:j1)=Sum.inr x)=false from decide_eq_false (fun z=>by rw [Sum.inr.inj z] at c;simp at c)]
      exact oj x r
theorem Ie.dict{P:PK}{w:PJ}{K:PF}{a:xM}{ms:List (Str × xM)}(T:Ie K w a ms){h:PL}(X:K.In h):h.DictOf (fX P w) a (ms.map fun p=>((Sum.inr p.1:j1),Value.ref p.2)):=by
  obtain⟨es,n,h1,h2⟩:=T.at_
  refine⟨_,es,n,X a _ h1,⟨rfl,rfl,rfl⟩,rfl,fun e he=>?_,?_,?_⟩
  · have:∀{l:List Sj} {ms:List (Str × xM)},Paired (fun(e:Sj) (p:Str × xM)=>e.hash=hashStr w p.1∧(∃t,e.key=.str p.1 t)∧e.val=.ref p.2) l ms→∀e∈l,∃k:j1,(fX P w).is k e.key=true∧e.hash=(fX P w).hash k:=by
      intro l ms h
      induction h with
      | nil=>intro e he;cases he
      | @cons e p l ms h _ ih=>
        intro e' he
        rcases Px he with rfl | he
        · obtain⟨g1,⟨t,g2⟩,_⟩:=h
          exact⟨Sum.inr p.1,by rw [g2];exact k7 p.1 t,g1⟩
        · exact ih e' he
    exact this h2 e (by simpa using he)
  · have:∀{l:List Sj} {ms:List (Str × xM)},Paired (fun(e:Sj) (p:Str × xM)=>e.hash=hashStr w p.1∧(∃t,e.key=.str p.1 t)∧e.val=.ref p.2) l ms→Pairs (fX P w) l (ms.map fun p=>((Sum.inr p.1:j1),Value.ref p.2)):=by
      intro l ms h
      induction h with
      | nil=>exact .nil
      | @cons e p l ms h _ ih=>
        obtain⟨_,⟨t,g2⟩,g3⟩:=h
        refine .cons (kv:=(_,_)) ?_ g3 ih
        show vd (Sum.inr p.1) e.key=true
        rw [g2];exact k7 _ t
    exact this h2
  · have:(ms.map fun p=>((Sum.inr p.1:j1),Value.ref p.2)).map (·.1)=(ms.map (·.1)).map Sum.inr:=by simp [Rq,Function.comp]
    rw [this]
    exact List.pairwise_map.mpr (T.nod.imp fun h z=>h (Sum.inr.inj z))
section
variable{X:Cx}{K:PF}{C:xM}{a b:PH}{fa:FE}{cH:List PN}{pos p p1 p2 p3:Pos}{W:List Nat}
def xD(ks:List Str)(fa:FE):FT:=fun e=>(fa e).bind fun p=>(bJ p.1).map fun y=>(ks.any fun k=>y==k,p.2)
theorem vj(y:Str):∀(ms:List (Str × xM)),(ms.lookup y).isSome=(ms.map (·.1)).any fun k=>y==k
  | []=>rfl
  | (k,a)::r=>by
    rw [Qw,Qk,Tj]
    cases c:y==k with
    | true=>rfl
    | false=>simpa [c] using vj y r
theorem Hu{x:Str}{q:xM}{ms:List (Str × xM)}{ks:List Str}(hK:X.K=K)(T:Ie K X.w q ms)(hks:ms.map (·.1)=ks)(ha:PE X a (fE K fa))(hg:Gl X x)(hm:X.mg x=some (.ref q))(hd:(x==("__debug__":Str))=false)(hb:Rl .In (.Name x p)=false):PT X (.Compare a [.In] [.Name x p] pos) (fT K (xD ks fa)):=by
  subst hK
  subst hks
  have pc:PC X .In a (.Name x p) (fun σ H Q=>fE X.K fa σ H fun v H1=>∃y:Str,v=.str y∧Q (.bl (ms.lookup y).isSome) H1):=by
    intro pins s σ H Q I h
    refine cZ (ha pins s σ H _ I h) fun iv s1 ⟨v,H1,I1,r1,y,ey,q1⟩=>mJ I1 hg hm ?_ hd
    subst ey
    obtain⟨t,rfl⟩:=r1
    refine wpAny_in_of (knd:=fX X.prog X.w) (k:=Sum.inr y) (show(fX X.prog X.w).is (Sum.inr y) (.str y t)=true from k7 y t) T.sys (T.dict I1.kIn).mapOf ?_
    rw [oj,Option.isSome_map]
    exact⟨.bl _,H1,I1.tok _,rfl,q1⟩
  refine(Hf pc hb).mono fun σ H Q h=>?_
  obtain⟨F,e,bb,e',R,hf,q⟩:=h
  unfold xD at hf
  obtain⟨⟨r,e1⟩,h1,hf⟩:=Pr hf
  obtain⟨y,h2,hf⟩:=Pt hf
  cases hf
  exact⟨F,e,r,_,R,h1,fun F1 H1 v X1 R1 A1=>⟨y,cX A1 h2,_,rfl,by rw [vj];exact q F1 H1 X1 R1⟩⟩
def KI(X:Cx)(k:Nat)(f:xM)(m:FM):Prop:=∃fd ps,aP X.prog X.w X.K X.mg X.base cM k f fd ps (eA X.K 2 m)∧eQ X.K fd ps []∧Sa X.K (.ref f)=true
def vG(i il iq:Nat)(qs:List (Str × FM)):XS:=fun x=>match x.1[il]? with
  | some (some (.d (.str y)))=>(qs.lookup y).bind fun m=>if j3 [iq] x.2=true∧iq < x.1.length then bI (nA 2 m (bQ (bR i "web") (bQ (bR i "run") gE))) (x.1.set iq none,x.2) else none
  | _=>none
theorem Bw{i il iq k:Nat}{x y z:Str}{qa:xM}{ms:List (Str × xM)}{qs:List (Str × FM)}{e1 e2:PH}{pos' rp cp:Pos}(hK:X.K=K)(T:Ie K X.w qa ms)(hr:cg k X.A)(hq:∀(u:Str) (m:FM),qs.lookup u=some m→∃f,ms.lookup u=some f∧KI X k f m)
    (hg:Gl X x)(hm:X.mg x=some (.ref qa))(hd:(x==("__debug__":Str))=false)(hl:PE X (.Name y p1) (rB il))(hN:X.N.Nodup)(hi:X.N[iq]?=some z)(hz:Cv X.env.scope z)(hsw:RW (.Subscript (.Name x p) (.Name y p1) p2) (some (.Name z pos')) pos.line X.env=pure false)(hf:X.fn z=true∨X.env.scope.names.lookup z=some .local)
    (hv:PE X (.Name z p3) (rB iq))(ha:PA X [e1,e2] (CF K C (bQ (bR i "web") (bQ (bR i "run") gE))))(hst:PU [e1,e2] X.env=(false,PV e1 X.env)::PU [e2] X.env)(hpl:(Qf cp (PU [e2] X.env)).any (·.1)=false):
    kQ X [.Assign [.Name z pos'] (.Subscript (.Name x p) (.Name y p1) p2) pos,.Return (some (.Call (.Name z p3) [e1,e2] [] cp)) rp] (tO K C (vG i il iq qs) [iq]):=by
  subst hK
  have look:PE X (.Subscript (.Name x p) (.Name y p1) p2) (fun σ H Q=>∃(u:Str) (f:xM),σ[il]?=some (some (.str u))∧ms.lookup u=some f∧Q (.ref f) H):=by
    intro pins s σ H Q I h
    obtain⟨u,f,h1,h2,q⟩:=h
    refine Ee PySem.F.slot_dict_getitem.lookup (fun _ _=>rfl) (mJ I hg hm (cZ (hl pins s σ H (fun v H1=>v=.str u∧H1=H) I ⟨.str u,h1,rfl,rfl⟩) fun iv s1 ⟨v,H1,I1,r1,ev,eh⟩=>?_) hd)
    subst ev
    subst eh
    obtain⟨t,rfl⟩:=r1
    have dd:=T.dict (P:=X.prog) I1.kIn
    refine⟨dd.typeIs,wpAny_getItem_of (knd:=fX X.prog X.w) (k:=Sum.inr u) (show(fX X.prog X.w).is (Sum.inr u) (.str u t)=true from k7 u t) dd.mapOf (v:=.ref f) (by rw [oj,h2];rfl) ⟨.ref f,H1,I1.tok _,rfl,q⟩⟩
  have call:PE X (.Call (.Name z p3) [e1,e2] [] cp) (fun σ H Q=>∃f m,σ[iq]?=some (some (.ref f))∧KI X k f m∧sJ (eA X.K 2 m) [] E0 (CF X.K C (bQ (bR i "web") (bQ (bR i "run") gE))) σ H Q):=by
    intro pins s σ H Q I h
    obtain⟨f,m,h1,⟨fd,ps,G,hb,hk⟩,q⟩:=h
    refine Tc (cZ (hv pins s σ H (fun v H1=>v=.ref f∧H1=H) I ⟨.ref f,h1,rfl,rfl⟩) fun fv s1 ⟨v,H1,I1,r1,ev,eh⟩=>?_)
    subst ev
    subst eh
    obtain rfl:fv=Value.ref f:=r1
    refine TC (h₀:=X.base) I1.ok.mod.kin hk (cZ (ha cp pins s1 σ H1 _ I1 q) fun us s2 ⟨vs,H2,I2,r,q2⟩=>⟨I2.kIn,?_⟩) hst hpl
    exact uo G hr hb .nil vD I2 r q2
  refine(qj (uj hN hi hz look hsw hf) (uk (xw call))).mono fun D σ H h=>?_
  obtain⟨F,⟨e,ob⟩,fp,fl,R,hf,q⟩:=h
  unfold vG at hf
  split at hf
  case h_2=>cases hf
  case h_1 u hu=>
  obtain⟨m,h1,hf⟩:=Pr hf
  split at hf
  case isFalse=>cases hf
  case isTrue hc=>
  obtain⟨hw,hlt⟩:=hc
  obtain⟨⟨d,x1⟩,h3,hf⟩:=Pt hf
  cases hf
  obtain⟨f,g1,g2⟩:=hq u m h1
  obtain⟨v,c1,c2⟩:=R.rel.dat _ _ hu
  rw [jy.mp c2] at c1
  refine⟨u,f,c1,g1,?_⟩
  have hw':=qe hw
  have ne:∀p∈ob,iq≠p.1.slot:=fun p hp z=>hw' p hp (by rw [z];simp)
  have R2:bu X.K C F H (σ.set iq (some (.ref f))) (e.set iq none) ob fp:=⟨(R.rel.drop iq).poke _,fun p hp=>by
    obtain⟨d1,w,d2,d3⟩:=R.obs p hp
    exact⟨by rw [Ql (ne p hp)];exact d1,w,d2.mono (ax.refl _) (Ql (ne p hp)),d3⟩,R.dis,fun a ha z=>by
      obtain⟨j,zj⟩:=z
      exact R.own a ha (cj.drop ⟨j,my.mp zj⟩)⟩
  have Y:cC [iq] σ F H e (Fo ob fp) (σ.set iq (some (.ref f))) F H (e.set iq none) (Fo ob fp):=⟨ax.refl _,fun _ z=>z,fun _ _ z _ _ _=>z,fun _ vs z=>⟨vs,z⟩,fun _ _ z _ _=>z,fun a z=>.inl (z.imp_left fun⟨j,zj⟩=>cj.drop ⟨j,my.mp zj⟩),fun j n=>Ql (fun z=>n (by simp [z])),fun _ _ z _ _ _=>z⟩
  refine⟨f,m,Ru (by rw [R.rel.len];exact hlt),g2,yR ⟨F,(e.set iq none,ob),fp,d,x1,R2,h3,fun F1 H1 w fp1 X1 R1 A1=>?_⟩⟩
  exact q F1 H1 _ w fp1 (Y.trans (X1.mono fun j h=>by cases h)) R1 A1
end
def AD(m:MX):FM:=fun as=>if uV (as.map some)=true then(m (as.map some,[])).map fun z=>(.d z.1,as) else none
section
variable{P:PK}{w:PJ}{K:PF}{C:xM}{mg:Str→Option MG}{base:PL}
theorem GD{k n:Nat}{f:xM}{fd:PZ}{ps:List Str}{m:MX}(G:aP P w K mg base cM k f fd ps (rA K C n m)):aP P w K mg base cM k f fd ps (eA K n (AD m)):=G.imp fun vs H Q E h=>by
  obtain⟨hl,F,as,r,as',R,nN,hm,hn,q⟩:=h
  unfold AD at hm
  split at hm
  case isFalse=>cases hm
  case isTrue hd=>
  obtain⟨⟨d,oc⟩,h1,hm⟩:=Pt hm
  cases hm
  refine⟨hl,F,(as.map some,[]),fun _=>[],d,oc,⟨R,(fun p hp=>by cases hp),(fun p hp=>by cases hp),(fun a ⟨p,hp,_⟩=>by cases hp)⟩,hd,h1,fun F' H' v fp' X R' A=>?_⟩
  have nS:∀a,¬Fo ([]:j2) (fun _=>[]) a:=fun a ⟨p,hp,_⟩=>by cases hp
  exact q F' H' v ⟨X.sf,X.dom,fun a vs h1 h2 h3=>X.fr a vs h1 h2 h3 (nS a),X.lst,fun a o h1 h2=>X.tmp a o h1 h2 (nS a),fun _=>Iff.rfl,fun a z=>absurd z (fY hd),fun a o h1 h2 h3=>X.fd a o h1 h2 h3 (nS a)⟩ R'.rel A
end
section
variable{K:PF}{C:xM}{W:List Nat}{F H F' H':Hp}{σ σ':L2.St}{e e':En}{ob:j2}{fp:Lc→List xM}{i:Nat}{S S' T:xM→Prop}
end
abbrev XN:=EX→Option (Ob × EX)
abbrev KU:=EX→Option (List Ob × EX)
abbrev Nw:=Ob × V × List xM
def KG(ts:List Nw)(a:xM):Prop:=∃t∈ts,a∈t.2.2
structure KF (K:PF) (C:xM) (F H:Hp) (σ:L2.St) (e:En) (S:xM→Prop) (ts:List Nw):Prop where
  at_:∀t∈ts,oZ K C F H t.1 t.2.1 t.2.2
  no:∀a,KG ts a→¬S a∧¬cj σ e H a
  dis:ts.Pairwise fun t s=>∀a∈t.2.2,a∉s.2.2
section
variable{X:Cx}{K:PF}{C:xM}{fa fb:XE}{fn:XN}{fs:KU}{a b:PH}{es:List PH}{pos p p2:Pos}{i:Nat}
end
section
variable{X:Cx}{K:PF}{C:xM}{fa fb:XE}{fn:XN}{fs:KU}{a b:PH}{es:List PH}{pos p p2:Pos}{i:Nat}
end
section
variable{X:Cx}{K:PF}{C:xM}{fs:KU}{es:List PH}{pos:Pos}{i:Nat}
end
section
variable{X:Cx}{K:PF}{C:xM}{fb:FE}{fs:XR}{a b:PH}{es:List PH}{pos:Pos}{i:Nat}
end
section
variable{K:PF}{C:xM}{W:List Nat}{F H F' H' F2 F3:Hp}{σ σ':L2.St}{e e':En}{ob:j2}{fp:Lc→List xM}{i:Nat}{S S' T:xM→Prop}
end
abbrev Mf:=EX→Option (Nat × EX)
section
variable{X:Cx}{K:PF}{C:xM}{W W1 W2:List Nat}{st:PN}{cH:List PN}{f:XS}{g:Mf}{pos:Pos}{a:PH}{i:Nat}
end
section
variable{P:PK}{w:PJ}{K:PF}{C:xM}{mg:Str→Option MG}{base:PL}
end
section
variable{X:Cx}{K:PF}{C:xM}{fa:XE}{fn:XN}{fs:XR}{a b:PH}{es:List PH}{pos apos p p2:Pos}{i:Nat}
end
abbrev Gr:=Ob ⊕ PD
abbrev XG:=EX→Option (List Gr × EX)
abbrev Gv:=V × List xM
def L5(ts:List Gv)(a:xM):Prop:=∃t∈ts,a∈t.2
def Kx(K:PF)(C:xM)(F H:Hp):List Gr→List Gv→Prop
  | [],ts=>ts=[]
  | .inl o::r,ts=>∃v as s,ts=(v,as)::s∧oZ K C F H o v as∧Kx K C F H r s
  | .inr d::r,ts=>∃v s,ts=(v,[])::s∧DA K F d v∧Kx K C F H r s
structure MC (K:PF) (C:xM) (F H:Hp) (σ:L2.St) (e:En) (S:xM→Prop) (rs:List Gr) (ts:List Gv):Prop where
  at_:Kx K C F H rs ts
  no:∀a,L5 ts a→¬S a∧¬cj σ e H a
  dis:ts.Pairwise fun t s=>∀a∈t.2,a∉s.2
section
variable{X:Cx}{K:PF}{C:xM}{F H F1 H1 F2 H2:Hp}{σ:L2.St}{fa:XE}{fn:XN}{fs:XG}{a b:PH}{es:List PH}{pos apos p p2:Pos}{i:Nat}
end
section
variable{prog:PK}{w:PJ}{A:PP}{E:MG→PB→Prop}{s:PB}{z TI TO i1 i2 i3 l1 l2 l3:xM}{k:Nat}{xs ys zs:Array MG}{a b c:MG}
end
section
variable{K:PF}{C:xM}{F H F' H' F1 H1:Hp}{σ:L2.St}{e:En}{ob:j2}{fp:Lc→List xM}{i:Nat}{ts:List Nw}{l:xM}
end
def IF(fn:XN):List PD→Option (List Ob)
  | []=>some []
  | d::r=>(fn ([some (.d d)],[])).bind fun p=>if p.2.2.isEmpty=true∧uV p.2.1=true∧p.2.1.length=1 then(IF fn r).map (p.1::·) else none
structure LH (K:PF) (C:xM) (fn:XN) (σ:L2.St) (F0 H0:Hp) (e0:En) (x:EX) (fp:Lc→List xM) (l:xM) (os:List Ob) (cH:List PD) (σi:L2.St) (H:Hp) (F:Hp) (ts:List Nw) (ei:En):Prop where
  R:bu K C F H σ x.1 x.2 fp
  Y:cC [] σ F0 H0 e0 (Fo x.2 fp) σ F H x.1 fun a=>Fo x.2 fp a∨a=l∨KG ts a
  N:KF K C F H σ x.1 (Fo x.2 fp) ts
  fl:F l=none
  hl:H l=some (.lst (ts.map fun t=>t.2.1))
  nl:¬Fo x.2 fp l
  nol:¬cj σ x.1 H l
  nlt:¬KG ts l
  eq:∃os',IF fn cH=some os'∧os=ts.map (·.1)++os'
  le:ei.length=1
  db:uV ei=true
  ri:bj K F H σi ei
section
variable{X:Cx}{K:PF}{C:xM}
end
section
variable{X:Cx}{K:PF}{a b:PH}{fa fb:FE}{pos p p3:Pos}
def za:En→Rv→Rv→Option Rv:=fun _ x y=>(bJ x).bind fun t=>(bW y).bind fun i=>(atI t.cps.toList i).bind fun c=>if t.length≤1000000 then some (.d (.str ⟨#[c]⟩)) else none
theorem IZ:gT K JG za:=by
  intro σ H0 F H e x y z v u Q R A B hg q
  unfold za at hg
  obtain⟨t,h1,hg⟩:=Pr hg
  obtain⟨i,h2,hg⟩:=Pr hg
  obtain⟨c,h3,hg⟩:=Pr hg
  split at hg
  case isFalse=>cases hg
  case isTrue hl=>
  cases hg
  exact⟨t,i,c,cX A h1,cF B h2,by rw [QC];lia,h3,q F H _ (dY.refl _ _ _ _) R kz⟩
theorem JA(ha:PE X a (fE K fa))(hb:PE X b (fE K fb))(hs:l7 b):PE X (.Subscript a b pos) (fE K (aw za fa fb)):=E3 FY IZ ha hb hs
def Fb:R2:=fun x y H Q=>∃t n,x=.str t∧y=.int n∧MulOk t n∧Q (.str (QJ t n)) H
theorem Du:iH X (Qt .Mult) Fb:=by
  intro pins s σ H x y v u Q I rx ry h
  obtain⟨t,n,rfl,rfl,hm,q⟩:=h
  obtain⟨k,rfl⟩:=rx
  obtain⟨k',rfl⟩:=ry
  exact PySem.SB.mul hm fun t' k=>⟨.str _,H,I.tok _,⟨_,rfl⟩,q⟩
open Classical in
noncomputable def i6:En→Rv→Rv→Option Rv:=fun _ x y=>(bJ x).bind fun t=>(bW y).bind fun n=>if MulOk t n then some (.d (.str (QJ t n))) else none
theorem GG:gT K Fb i6:=by
  intro σ H0 F H e x y z v u Q R A B hg q
  unfold i6 at hg
  obtain⟨t,h1,hg⟩:=Pr hg
  obtain⟨n,h2,hg⟩:=Pr hg
  split at hg
  case isFalse=>cases hg
  case isTrue hl=>
  cases hg
  exact⟨t,n,cX A h1,cF B h2,hl,q F H _ (dY.refl _ _ _ _) R kz⟩
theorem Bq(ha:PE X a (fE K fa))(hb:PE X b (fE K fb)):PE X (.BinOp a .Mult b pos) (fE K (aw i6 fa fb)):=mW Du GG ha hb
end
section
variable{X:Cx}{K:PF}{a b:PH}{fa fb:FE}{pos:Pos}
def E7(K:PF):R2:=fun x y H Q=>∃l b xs zs,x=.ref l∧y=.ref b∧iJ K H l xs∧iJ K H b zs∧xs.length+zs.length≤PY∧∀p,H p=none→Q (.ref p) (cy H p (.lst (xs++zs)))
theorem Do:iH X (Qt .Add) (E7 X.K):=by
  intro pins s σ H x y v u Q I rx ry h
  obtain⟨l,b,xs,zs,rfl,rfl,hH,hB,hz,q⟩:=h
  cases rx
  cases ry
  obtain⟨its,r,p1,z1⟩:=I.list hH
  obtain⟨its2,r2,p2,z2⟩:=I.list hB
  have l1:=r.length
  have l2:=r2.length
  obtain⟨⟨cls,dd,data,sl⟩,ho,hc,n,hd⟩:=id p1.isList
  obtain⟨⟨cls2,dd2,data2,sl2⟩,ho2,hc2,n2,hd2⟩:=id p2.isList
  simp only at hc hd hc2 hd2
  subst hc hd hc2 hd2
  refine concat_meets ⟨_,ho,rfl⟩ ⟨_,ho2,rfl⟩ noFill_list_add seq_list_add PySem.F.slot_list_add PySem.F.entry_list_add (PySem.F.args_list_add_2 _ _) (list_addW l b its.toArray its2.toArray n n2 dd dd2 sl sl2 (by rw [Qj,Qj];lia)) ⟨ho,ho2,?_⟩
  have ea:its.toArray++its2.toArray=(its++its2).toArray:=by simp
  rw [ea]
  exact⟨.ref _,_,I.lnew (t':=s.toks) (r.append r2) (by rw [Se];lia),rfl,q _ I.fresh⟩
def rV:En→Rv→Rv→Option Rv:=fun e x y=>match cU e x,cU e y with
  | some (true,xs),some (true,ys)=>if xs.length+ys.length≤1000000 then some (.l (xs++ys)) else none
  | _,_=>none
theorem FD:gT K (E7 K) rV:=by
  intro σ H0 F H e x y z v u Q R A B hg q
  unfold rV at hg
  match h1:cU e x,h2:cU e y,hg with
  | some (true,xs),some (true,ys),hg=>
    dsimp only at hg
    split at hg
    case isFalse=>cases hg
    case isTrue hl=>
    cases hg
    obtain⟨p,vs,rfl,d1,s1⟩:=cV R A h1
    obtain⟨p',us,rfl,d2,s2⟩:=cV R B h2
    have l1:=d1.len
    have l2:=d2.len
    have sl:PY=16777216:=QC
    refine⟨p,p',vs,us,rfl,rfl,s1,s2,by lia,fun t ht=>?_⟩
    obtain⟨R3,X3,hF,no⟩:=R.newL (vs:=vs++us) ht
    exact q _ _ _ X3 R3 ⟨t,_,rfl,ht,hF,aM,d1.append d2,no⟩
theorem Hl(hK:X.K=K)(ha:PE X a (fE K fa))(hb:PE X b (fE K fb)):PE X (.BinOp a .Add b pos) (fE K (aw rV fa fb)):=mW (hK ▸ Do) FD ha hb
end
section
variable{prog:PK}{w:PJ}{A:PP}{E:MG→PB→Prop}{s:PB}
theorem rR{it t:xM}{items:Array MG}(hne:t≠it):∀(n i:Nat) (s:PB) (Q:List MG→PB→Prop),s.heap.IsListIter it t i→s.heap.IsList t items→i+n≤items.size→
    (∀h',h'.IsListIter it t (i+n)→Heap.ExtBut it s.heap h'→Q ((items.toList.drop i).take n) {s with heap:=h'})→PM (PQ prog w) A (draw (.ref it) n) Q E s
  | 0,i,s,Q,hit,_,_,hQ=>by
    show PM _ _ (pure []) Q E s
    exact Qa (by simpa using hQ s.heap hit fun _ _ _ e=>e)
  | n+1,i,s,Q,hit,ht,hle,hQ=>by
    have hlt:i < items.size:=by lia
    show PM _ _ (pyNext (.ref it) >>= _) Q E s
    refine PR (wpAny_pyNext_list_item hit ht (x:=items[i]) (by simp [hlt]) fun h₁ hit₁ hs₁=>?_)
    have ht1:h₁.IsList t items:=ht.extBut hs₁.extBut hne
    refine PR (Ry (rR hne n (i+1) _ _ hit₁ ht1 (by lia) fun h₂ hit₂ hs₂=>Qa ?_))
    have hd:items.toList.drop i=items[i]::items.toList.drop (i+1):=by simp [TZ,hlt]
    have:=hQ h₂ (by rw [show i+(n+1)=i+1+n by lia];exact hit₂) (fun b o hb e=>hs₂ b o hb (hs₁.extBut b o hb e))
    rw [hd,List.take_succ_cons] at this
    exact this
theorem wa{t:xM}{items:Array MG}{targets:List (Bool × (MG→Sem Unit))}{Q:Unit→PB→Prop}(hh:A.handled=none)(ht:s.heap.IsList t items)
    (hn:targets.length=items.size)(hstar:targets.findIdx? (·.1)=none)
    (h:∀h',Heap.ExtBut s.heap.objs.size s.heap h'→PM (PQ prog w) A (assignInOrder (targets.map (·.2)) items.toList) Q E {s with heap:=h'}):
    PM (PQ prog w) A (unpack (.ref t) targets) Q E s:=by
  unfold unpack
  rw [hn,hstar]
  refine PR (Ry ?_)
  have hlt:t≠s.heap.objs.size:=by obtain⟨o,ho,_⟩:=ht;exact QH (Qg ho)
  unfold unpackItems
  refine PR ?_
  unfold notIterableAtAll
  refine PR (wpAny_specialOf ht.typeIs slot_list_iter.lookup ?_)
  refine Qa ?_
  simp only [SW,if_false]
  refine PR (Ry (wpAny_pyIter_list ht ?_))
  refine PR (Ry (rR hlt items.size 0 _ _ ⟨_,QL _ rfl,rfl,rfl⟩ (Heap.IsList.push ht _) (by lia) fun h₁ hit₁ hs₁=>?_))
  have hall:List.take items.size (List.drop 0 items.toList)=items.toList:=by
    rw [Ud];exact Uw (by simp)
  rw [hall]
  rw [if_neg (by simp)]
  have ht₁:h₁.IsList t items:=(Heap.IsList.push ht _).extBut hs₁ hlt
  refine PR (Ry (wpAny_pyNext_list_end hh hit₁ ht₁ (by simp) fun h₂ he₂=>?_))
  simp only [Option.isSome_none,SW,if_false]
  exact Qa (h h₂ fun b o hb e=>he₂ b o hb (hs₁ b o hb (Qs _ e)))
end
def K1(K:PF)(n:Nat)(t:zN):TG:=fun v σ H Q=>∃a xs,v=.ref a∧iJ K H a xs∧xs.length=n∧t xs σ H Q
section
variable{X:Cx}{K:PF}{pos p p3:Pos}
theorem G'{es:List PH}{k:Nat}{t:zN}{n:Nat}(hK:X.K=K)(hc:X.calm=true)(h:xS X es t)(hn:(QA es X.env).length=n)(hst:(QA es X.env).findIdx? (·.1)=none):PG X (.Tuple es k pos) (K1 K n t):=by
  subst hK
  intro pins s σ H v u Q I r hw
  obtain⟨a,xs,e1,hq,hl,hw⟩:=hw
  subst e1
  cases r
  obtain⟨its,rv,ht,hz⟩:=I.list hq
  rw [show assign (.Tuple es k pos) X.env (.ref a)=(do RH pos;unpack (.ref a) (QA es X.env)) from rfl]
  refine PR (wpAny_standAt (wa (I.ok.hd hc) ht.isList (by simp [hn,←hl,rv.length]) hst fun h' hx=>?_))
  have I1:aN X pins σ H {s with heap:=h'}:=I.kept (t':=s.toks) fun b o e=>hx b o (QH (Qg e)) e
  exact h pins _ σ H xs _ Q I1 (by simpa using rv) hw
def m7(c:Nat)(gs:Ce):FS:=fun e=>match e[c]? with
  | some (some (.l xs))=>(gs xs e).map .nx
  | _=>none
theorem Bv{W:List Nat}{c k n:Nat}{z:Str}{es:List PH}{gs:Ce}(hK:X.K=K)(hc:X.calm=true)(ho:PE X (.Name z p) (rB c))(h:xS X es (II K gs W))(hl:∀xs e e',gs xs e=some e'→xs.length=n)(hn:(QA es X.env).length=n)(hst:(QA es X.env).findIdx? (·.1)=none)
    (hs:SK [.Tuple es k p3] (.Name z p) pos.line X.env=pure false)(hw:SL [.Tuple es k p3] (.Name z p) X.env=pure none)(h1:(QA [.Tuple es k p3] X.env).map (·.2)=[assign (.Tuple es k p3) X.env]):
    PS X (.Assign [.Tuple es k p3] (.Name z p) pos) (fS K (m7 c gs) W):=(xu ho (G' hK hc h hn hst) hs hw h1).mono fun D σ H hh=>by
  obtain⟨F,e,fl,R,hf,q⟩:=hh
  unfold m7 at hf
  split at hf
  case h_2=>cases hf
  case h_1 xs he=>
  obtain⟨e',hg,hf⟩:=Pt hf
  cases hf
  obtain⟨l,vs,g1,g2,g3,g4⟩:=R.own c xs he
  exact⟨.ref l,g1,l,vs,rfl,iJ.of g3,by rw [←g4.len];exact hl xs e e' hg,F,e,xs,e',R,g4,hg,fun σ' Y R'=>q F H σ' Y R'⟩
end
end L2
namespace V92
open PySem PySem.Spec PyProof.Rows L2
variable{P:PK}{w:PJ}{K:PF}{mg:Str→Option MG}{base:PL}{f:xM}{fd:PZ}
local macro_rules|`(tactic|trivial)=>`(tactic|first|exact .inl rfl|exact .inr rfl|assumption)
local macro_rules|`(¬$n:num)=>`(@qw _ _ $n _ _ (by rfl) (by rfl) (by decide))
local macro_rules|`($a∘$b)=>`(@Lg _ _ _ _ _ _ $a $b (by rfl))
theorem mw{α:Type u}{β:Type v}{f:α→β}:SA f []=[]:=rfl
theorem mv{α:Type u}{β:Type v}{f:α→β}{a:α}{l:List α}:SA f (a::l)=f a::SA f l:=rfl
theorem ml{α:Type u}{l:List α}:[]++l=l:=rfl
theorem mj{α:Type u}{a:α}{l m:List α}:(a::l)++m=a::(l++m):=rfl
theorem mq{α:Type u}{a:α}{l:List α}:(a::l)[0]?=some a:=rfl
theorem mr{α:Type u}{a:α}{l:List α}{i:Nat}:(a::l)[i+1]?=l[i]?:=rfl
theorem mn{α:Type u}{β:Type v}{a:α}{f:α→Option β}:Option.bind (some a) f=f a:=rfl
theorem mx{α:Type u}{β:Type v}{a:α}{f:α→β}:Option.map f (some a)=some (f a):=rfl
structure ck (mg:Str→Option MG):Prop where
  b_abs:mg "abs"=none
  b_len:mg "len"=none
  b_min:mg "min"=none
  b_max:mg "max"=none
  b_range:mg "range"=none
  b_tuple:mg "tuple"=none
  b_int:mg "int"=none
  b_sorted:mg "sorted"=none
  b_zip:mg "zip"=none
  b_enumerate:mg "enumerate"=none
  b_isinstance:mg "isinstance"=none
  b_set:mg "set"=none
  b_sum:mg "sum"=none
  b_all:mg "all"=none
  Fz:mg "list"=none
  b_reversed:mg "reversed"=none
  b_str:mg "str"=none
  b_ValueError:mg "ValueError"=none
abbrev Cl(P:PK)(w:PJ)(K:PF)(mg:Str→Option MG)(base:PL)(n:Str)(s:PN)(ps:List Str)(lv k:Nat)(m:FM):Prop:=∃f fd,fy K mg n s f fd ps∧aP P w K mg base cM lv f fd ps (eA K k m)
noncomputable def oq:FS:=(bf (uB (aw dC (aw dC (ae 0) (vC (.int 1))) (ae 1)) bC (bx (vC (.int 2)))))
noncomputable def cw:FM:=gQ 2 0 [] oq
theorem ng:az ["web","tie"] ["web","tie"] (ar dA):=⟨rfl,rfl,rfl,by decide+kernel,rfl,by decide+kernel,by decide+kernel⟩
theorem uh(h:fy K mg "things_of" dA f fd ["web","tie"])(T:ck mg):aP P w K mg base cM 1 f fd ["web","tie"] (eA K 2 cw):=by
  have nd:=ng.nd
  exact h.fn ng rfl rfl (fun cdv A outer s H E hr=>(@av _ _ _ _ _ (@aB _ _ _ _ _ (@mT _ _ _ _ _ _ _ _ _ _ rfl (@cD _ _ _ _ _ _ _ rfl (@cD _ _ _ _ _ _ _ rfl (¬0) ag (fun _ _=>rfl)) (¬1) (fun _ _=>rfl)) (@df _ _) (@dg _ _ _ _ ag)))))
noncomputable def lu:FI:=(ki (ae 1))
noncomputable def d_:FT:=(aE (aw (nD false) (ae 0) (cB 2 cw (ac (ae 1) (ac (ae 2) aj)))))
noncomputable def ec:FE:=(ae 2)
noncomputable def oo:FS:=(bf (aA (g1 dJ) (ac (cf [(2,"thing"),(0,"web")] 1 lu (aq 2) d_ ec) aj)))
noncomputable def gw:FM:=gQ 3 0 [] oo
theorem m9:az ["web","asked","thing"] ["web","asked","thing"] (ar gC):=⟨rfl,rfl,rfl,by decide+kernel,rfl,by decide+kernel,by decide+kernel⟩
theorem uf(h:fy K mg "many_asks" gC f fd ["web","asked","thing"])(T:ck mg)(z_things_of:Cl P w K mg base "things_of" dA ["web","tie"] 1 2 cw):aP P w K mg base cM 2 f fd ["web","asked","thing"] (eA K 3 gw):=by
  obtain⟨NA,NB,MS,M3⟩:=z_things_of
  have nd:=m9.nd
  exact h.fn m9 rfl rfl (fun cdv A outer s H E hr=>(@av _ _ _ _ _ (@aB _ _ _ _ _ (@aW _ _ _ _ _ _ _ _ _ (@b_len _ _ rfl) (by rfl) T.b_len ((@el _ _ _ _ _ _ _ _ _ _ _ _ _ [(2,"thing"),(0,"web")] ["tie"] rfl rfl (@fP _ _ _ _ _ rfl (¬1))
        (fun C s0 H0 fp=>(@aI _ _ _ 2 _ (show Ra (["thing","web","tie"]:List Str) by decide+kernel) rfl (Or.inl rfl) (by trivial))) (fun C s0 H0 fp=>(@jL _ _ _ _ (@aQ _ _ _ _ _ _ _ _ _ (@tD _ _ _ rfl hr) (¬0) (@bD _ _ _ _ _ _ _ _ _ _ _ _ _ _ _ MS M3 (hr.mono (by decide)) ((¬1)∘((¬2)∘af)) (by rfl) (by decide) (by rfl) (by rfl)) (by with_unfolding_all rfl))))
        (fun C s0 H0 fp=>(¬2)) rfl (by rfl) (by intro _;rfl))∘af) (by decide) (by decide) (by rfl) (by rfl)))))
noncomputable def fC:FS:=(aJ (lp (ae 1) (cn (aF (aq 3) (aF (aq 4) bT))))
    (bf (jY (aw (nD true) (ae 2) (ae 4)) (aw wK (cB 3 gw (ac (ae 0) (ac (ae 3) (ac (ae 2) aj)))) (aw dC (aw dC (ae 0) (vC (.int 2))) (ae 2))))))
noncomputable def bZ:FM:=gQ 3 2 (([3]++([4]++[]))++[]) fC
theorem iO:az ["web","stand","thing","asked","taken"] ["web","stand","thing"] (ar cI):=⟨rfl,rfl,rfl,by decide+kernel,rfl,by decide+kernel,by decide+kernel⟩
theorem mM(h:fy K mg "bears_one_more" cI f fd ["web","stand","thing"])(T:ck mg)(z_many_asks:Cl P w K mg base "many_asks" gC ["web","asked","thing"] 2 3 gw):aP P w K mg base cM 3 f fd ["web","stand","thing"] (eA K 3 bZ):=by
  obtain⟨OB,OC,Na,NT⟩:=z_many_asks
  have nd:=iO.nd
  exact h.fn iO rfl rfl (fun cdv A outer s H E hr=>(@ah _ _ _ _ _ _ _ _ (@qm _ _ _ _ _ _ _ _ (¬1) (@iW _ _ _ _ _ _ _ _ rfl rfl (@a_ _ _ _ _ _ _ _ _ (@aI _ _ _ 3 _ nd rfl (Or.inl rfl) (by trivial)) (@a_ _ _ _ _ _ _ _ _ (@aI _ _ _ 4 _ nd rfl (Or.inl rfl) (by trivial)) (@er _ _) (by rfl)) (by rfl)) (bA (bA gH)) (by rfl) (by rfl)) (by rfl) (by rfl) (by rfl))
      (@av _ _ _ _ _ (@aB _ _ _ _ _ (@Hn _ _ _ _ _ _ _ _ (@oJ _ _ _ _ _ _ _ _ _ (@x5 _ _ _ rfl hr) (¬2) (¬4) (by with_unfolding_all rfl)) (@Hq _ _ _ _ _ _ (@oJ _ _ _ _ _ _ _ _ _ (@wB _ _) (@bD _ _ _ _ _ _ _ _ _ _ _ _ _ _ _ Na NT (hr.mono (by decide)) ((¬0)∘((¬3)∘((¬2)∘af))) (by rfl) (by decide) (by rfl) (by rfl)) (@cD _ _ _ _ _ _ _ rfl (@cD _ _ _ _ _ _ _ rfl (¬0) ag (fun _ _=>rfl)) (¬2) (fun _ _=>rfl)) (aL _))))))))
noncomputable def oF:FI:=(ki (cB 2 cw (ac (ae 0) (ac (ae 2) aj))))
noncomputable def kd:FE:=(cB 3 bZ (ac (ae 0) (ac (ae 1) (ac (ae 2) aj))))
noncomputable def kU:FS:=(aJ (aS 3 (aw dC (ae 1) (vC (.int 0))))
    (aJ (je (uG (aE (aw (nD false) (ae 2) (ae 3))) (aE (aw Cn (aA (g1 dJ) (ac (ae 3) aj)) (aw dC (ae 0) (vC (.int 3))))))
    (bf (vC (.bool false)))
    dh)
    (bf (aA (g1 (i7 uY)) (ac (cf [(0,"web"),(1,"stand")] 1 oF (aq 2) gS kd) aj)))))
noncomputable def dO:FM:=gQ 3 1 ([3]++(([]++[])++[])) kU
theorem qI:az ["web","stand","tie","asked"] ["web","stand","tie"] (ar ik):=⟨rfl,rfl,rfl,by decide+kernel,rfl,by decide+kernel,by decide+kernel⟩
theorem xo(h:fy K mg "may_ask" ik f fd ["web","stand","tie"])(T:ck mg)(z_bears_one_more:Cl P w K mg base "bears_one_more" cI ["web","stand","thing"] 3 3 bZ)(z_things_of:Cl P w K mg base "things_of" dA ["web","tie"] 1 2 cw):aP P w K mg base cM 4 f fd ["web","stand","tie"] (eA K 3 dO):=by
  obtain⟨N8,N9,MU,Nx⟩:=z_bears_one_more
  obtain⟨NA,NB,MS,M3⟩:=z_things_of
  have nd:=qI.nd
  exact h.fn qI rfl rfl (fun cdv A outer s H E hr=>(@ah _ _ _ _ _ _ _ _ (@aH _ _ _ _ _ 3 _ _ nd rfl (Or.inl rfl) (@cD _ _ _ _ _ _ _ rfl (¬1) ag (fun _ _=>rfl)) (by rfl) (by trivial))
      (@ah _ _ _ _ _ _ _ _ (@cW _ _ _ _ _ _ _ _ _ _ _ (@rk _ _ _ _ (@sv _ _ _ _ _ _ _ _ (@aQ _ _ _ _ _ _ _ _ _ (@tD _ _ _ rfl hr) (¬2) (¬3) (by with_unfolding_all rfl)) (@nX _ _ _ _ _ (@aQ _ _ _ _ _ _ _ _ _ (@yT _ _) (@aW _ _ _ _ _ _ _ _ _ (@b_len _ _ rfl) (by rfl) T.b_len ((¬3)∘af) (by decide) (by decide) (by rfl) (by rfl)) (@cD _ _ _ _ _ _ _ rfl (¬0) ag (fun _ _=>rfl)) (aL _)))))
      (@av _ _ _ _ _ (@aB _ _ _ _ _ (@lx _ _ _ _ _)))
      (@br _ _))
      (@av _ _ _ _ _ (@aB _ _ _ _ _ (@aW _ _ _ _ _ _ _ _ _ (@b_all _ _ _ rfl hr) (by rfl) T.b_all ((@el _ _ _ _ _ _ _ _ _ _ _ _ _ [(0,"web"),(1,"stand")] ["thing"] rfl rfl (@fP _ _ _ _ _ rfl (@bD _ _ _ _ _ _ _ _ _ _ _ _ _ _ _ MS M3 (hr.mono (by decide)) ((¬0)∘((¬2)∘af)) (by rfl) (by decide) (by rfl) (by rfl)))
        (fun C s0 H0 fp=>(@aI _ _ _ 2 _ (show Ra (["web","stand","thing"]:List Str) by decide+kernel) rfl (Or.inl rfl) (by trivial))) (fun C s0 H0 fp=>(@mY _ _))
        (fun C s0 H0 fp=>(@bD _ _ _ _ _ _ _ _ _ _ _ _ _ _ _ MU Nx (hr.mono (by decide)) ((¬0)∘((¬1)∘((¬2)∘af))) (by rfl) (by decide) (by rfl) (by rfl))) rfl (by rfl) (by intro _;rfl))∘af) (by decide) (by decide) (by rfl) (by rfl)))))))
noncomputable def iu:FS:=(aJ (lp (ae 1) (cn (aF (aq 4) (aF (aq 5) bT))))
    (aJ (je (aE (ae 3))
    (aS 5 (aA (g1 eZ) (ac (aA (g1 fF) (ac (aw bi (ae 5) (cB 2 cw (ac (ae 0) (ac (ae 2) aj)))) aj)) aj)))
    dh)
    (bf (c9 (ac (aA (g1 eZ) (ac (aA (g1 fF) (ac (aw bi (ae 4) (c9 (ac (ae 2) aj))) aj)) aj)) (ac (ae 5) aj))))))
noncomputable def b6:FM:=gQ 4 2 (([4]++([5]++[]))++(([5]++[])++[])) iu
theorem jW:az ["web","stand","tie","truth","asked","taken"] ["web","stand","tie","truth"] (ar dz):=⟨rfl,rfl,rfl,by decide+kernel,rfl,by decide+kernel,by decide+kernel⟩
theorem pd(h:fy K mg "stand_behind" dz f fd ["web","stand","tie","truth"])(T:ck mg)(z_things_of:Cl P w K mg base "things_of" dA ["web","tie"] 1 2 cw):aP P w K mg base cM 2 f fd ["web","stand","tie","truth"] (eA K 4 b6):=by
  obtain⟨NA,NB,MS,M3⟩:=z_things_of
  have nd:=jW.nd
  exact h.fn jW rfl rfl (fun cdv A outer s H E hr=>(@ah _ _ _ _ _ _ _ _ (@qm _ _ _ _ _ _ _ _ (¬1) (@iW _ _ _ _ _ _ _ _ rfl rfl (@a_ _ _ _ _ _ _ _ _ (@aI _ _ _ 4 _ nd rfl (Or.inl rfl) (by trivial)) (@a_ _ _ _ _ _ _ _ _ (@aI _ _ _ 5 _ nd rfl (Or.inl rfl) (by trivial)) (@er _ _) (by rfl)) (by rfl)) (bA (bA gH)) (by rfl) (by rfl)) (by rfl) (by rfl) (by rfl))
      (@ah _ _ _ _ _ _ _ _ (@cW _ _ _ _ _ _ _ _ _ _ _ (@gL _ _ _ _ (¬3) (by intro _;rfl))
      (@av _ _ _ _ _ (@aH _ _ _ _ _ 5 _ _ nd rfl (Or.inl rfl) (@aW _ _ _ _ _ _ _ _ _ (@b_tuple _ _ rfl) (by rfl) T.b_tuple ((@aW _ _ _ _ _ _ _ _ _ (@b_sorted _ _ rfl) (by rfl) T.b_sorted ((@ce _ _ _ _ _ _ _ rfl (¬5) (@bD _ _ _ _ _ _ _ _ _ _ _ _ _ _ _ MS M3 (hr.mono (by decide)) ((¬0)∘((¬2)∘af)) (by rfl) (by decide) (by rfl) (by rfl)))∘af) (by decide) (by decide) (by rfl) (by rfl))∘af) (by decide) (by decide) (by rfl) (by rfl)) (by rfl) (by trivial)))
      (@br _ _))
      (@av _ _ _ _ _ (@aB _ _ _ _ _ (@bM _ _ _ _ _ _ ((@aW _ _ _ _ _ _ _ _ _ (@b_tuple _ _ rfl) (by rfl) T.b_tuple ((@aW _ _ _ _ _ _ _ _ _ (@b_sorted _ _ rfl) (by rfl) T.b_sorted ((@ce _ _ _ _ _ _ _ rfl (¬4) (@bM _ _ _ _ _ _ ((¬2)∘af)))∘af) (by decide) (by decide) (by rfl) (by rfl))∘af) (by decide) (by decide) (by rfl) (by rfl))∘((¬5)∘af))))))))
noncomputable def eG:FS:=(aJ (je (uG (kP (aE (qV nP (ae 0)))) (aE (aw Co (aA (g1 dW) (ac (ae 0) aj)) (vC (.int (4))))))
    (bf (vC .none))
    dh)
    (aJ (aS 1 (aA (g1 iy) (ac (ae 0) aj)))
    (bf (xO (aE (aw (bH false) (aA (g1 eY) (ac (ae 1) aj)) (ae 0))) (ae 1) (vC .none)))))
noncomputable def bX:FM:=gQ 1 1 (([]++[])++([1]++[])) eG
theorem m_:az ["word","number"] ["word"] (ar gD):=⟨rfl,rfl,rfl,by decide+kernel,rfl,by decide+kernel,by decide+kernel⟩
theorem ug(h:fy K mg "number_of" gD f fd ["word"])(T:ck mg){t_MOST_FIGURES:Tok}(m_MOST_FIGURES:mg "MOST_FIGURES"=some (.int (4) t_MOST_FIGURES)):aP P w K mg base cM 1 f fd ["word"] (eA K 1 bX):=by
  have nd:=m_.nd
  exact h.fn m_ rfl rfl (fun cdv A outer s H E hr=>(@ah _ _ _ _ _ _ _ _ (@cW _ _ _ _ _ _ _ _ _ _ _ (@rk _ _ _ _ (@sv _ _ _ _ _ _ _ _ (@ul _ _ _ _ _ (@gL _ _ _ _ (@Jy _ _ _ _ _ _ (¬0) (by rfl) (by rfl)) (by intro _;rfl))) (@nX _ _ _ _ _ (@aQ _ _ _ _ _ _ _ _ _ (@yU _ _) (@aW _ _ _ _ _ _ _ _ _ (@tf _ _) (by rfl) T.b_len ((¬0)∘af) (by decide) (by decide) (by rfl) (by rfl)) (@yw _ _ _ (V.int (4)) _ _ (PyData.int (4)) rfl m_MOST_FIGURES ⟨_,rfl⟩ (fun _=>cA.mpr rfl) (by decide)) (aL _)))))
      (@av _ _ _ _ _ (@aB _ _ _ _ _ (@gK _ _ _ _)))
      (@br _ _))
      (@ah _ _ _ _ _ _ _ _ (@aH _ _ _ _ _ 1 _ _ nd rfl (Or.inl rfl) (@aW _ _ _ _ _ _ _ _ _ (@xY _ _) (by rfl) T.b_int ((¬0)∘af) (by decide) (by decide) (by rfl) (by rfl)) (by rfl) (by trivial))
      (@av _ _ _ _ _ (@aB _ _ _ _ _ (@mV _ _ _ _ _ _ _ _ _ (@aQ _ _ _ _ _ _ _ _ _ (@j7 _ _ _ rfl hr) (@aW _ _ _ _ _ _ _ _ _ (@b_str _ _) (by rfl) T.b_str ((¬1)∘af) (by decide) (by decide) (by rfl) (by rfl)) (¬0) (aL _)) (¬1) (@gK _ _ _ _)))))))
noncomputable def jG:FI:=(ki (ae 0))
noncomputable def jB:FE:=(aA (g1 eY) (ac (ae 0) aj))
noncomputable def lF:FS:=(bf (aw oB (vC (.str (" ":Str))) (cf [] 1 jG (aq 0) gS jB)))
noncomputable def cQ:FM:=gQ 1 0 [] lF
theorem oR:az ["row"] ["row"] (ar fR):=⟨rfl,rfl,rfl,by decide+kernel,rfl,by decide+kernel,by decide+kernel⟩
theorem vA(h:fy K mg "row_line" fR f fd ["row"])(T:ck mg):aP P w K mg base cM 1 f fd ["row"] (eA K 1 cQ):=by
  have nd:=oR.nd
  exact h.fn oR rfl rfl (fun cdv A outer s H E hr=>(@av _ _ _ _ _ (@aB _ _ _ _ _ (@Bp _ _ _ _ _ _ _ _ _ rfl (@el _ _ _ _ _ _ _ _ _ _ _ _ _ [] ["part"] rfl rfl (@fP _ _ _ _ _ rfl (¬0))
        (fun C s0 H0 fp=>(@aI _ _ _ 0 _ (show Ra (["part"]:List Str) by decide+kernel) rfl (Or.inl rfl) (by trivial))) (fun C s0 H0 fp=>(@mY _ _))
        (fun C s0 H0 fp=>(@aW _ _ _ _ _ _ _ _ _ (@b_str _ _) (by rfl) T.b_str ((¬0)∘af) (by decide) (by decide) (by rfl) (by rfl))) rfl (by rfl) (by intro _;rfl)) (by rfl) (by rfl) (by rfl) (by rfl) (by rfl)))))
noncomputable def oE:FI:=(ki (ae 0))
noncomputable def j8:FT:=(aE (ae 1))
noncomputable def kc:FE:=(ae 0)
noncomputable def rH:FS:=(bf (aA (g1 eZ) (ac (cf [] 2 oE (cn (aF (aq 0) (aF (aq 1) bT))) j8 kc) aj)))
noncomputable def fL:FM:=gQ 1 0 [] rH
theorem qH:az ["run"] ["run"] (ar ij):=⟨rfl,rfl,rfl,by decide+kernel,rfl,by decide+kernel,by decide+kernel⟩
theorem xn(h:fy K mg "kept_of" ij f fd ["run"])(T:ck mg):aP P w K mg base cM 1 f fd ["run"] (eA K 1 fL):=by
  have nd:=qH.nd
  exact h.fn qH rfl rfl (fun cdv A outer s H E hr=>(@av _ _ _ _ _ (@aB _ _ _ _ _ (@aW _ _ _ _ _ _ _ _ _ (@b_tuple _ _ rfl) (by rfl) T.b_tuple ((@el _ _ _ _ _ _ _ _ _ _ _ _ _ [] ["tie","truth"] rfl rfl (@fP _ _ _ _ _ rfl (¬0))
        (fun C s0 H0 fp=>(@iW _ _ _ _ _ _ _ _ rfl rfl (@a_ _ _ _ _ _ _ _ _ (@aI _ _ _ 0 _ (show Ra (["tie","truth"]:List Str) by decide+kernel) rfl (Or.inl rfl) (by trivial)) (@a_ _ _ _ _ _ _ _ _ (@aI _ _ _ 1 _ (show Ra (["tie","truth"]:List Str) by decide+kernel) rfl (Or.inl rfl) (by trivial)) (@er _ _) (by rfl)) (by rfl)) (bA (bA gH)) (by rfl) (by rfl))) (fun C s0 H0 fp=>(@jL _ _ _ _ (@gL _ _ _ _ (¬1) (by intro _;rfl))))
        (fun C s0 H0 fp=>(¬0)) rfl (by rfl) (by intro _;rfl))∘af) (by decide) (by decide) (by rfl) (by rfl)))))
noncomputable def km:FI:=(ki (cB 1 fL (ac (ae 1) aj)))
noncomputable def eR:FE:=(aw dC (aw dC (aw dC (ae 0) (vC (.int 1))) (ae 1)) (vC (.int 3)))
noncomputable def l9:FS:=(bf (aA (g1 (i7 rY)) (ac (cf [(0,"web")] 1 km (aq 1) gS eR) aj)))
noncomputable def ff:FM:=gQ 2 0 [] l9
theorem lz:az ["web","run"] ["web","run"] (ar fx):=⟨rfl,rfl,rfl,by decide+kernel,rfl,by decide+kernel,by decide+kernel⟩
theorem rh(h:fy K mg "worth_kept" fx f fd ["web","run"])(T:ck mg)(z_kept_of:Cl P w K mg base "kept_of" ij ["run"] 1 1 fL):aP P w K mg base cM 2 f fd ["web","run"] (eA K 2 ff):=by
  obtain⟨N_,N',M9,NC⟩:=z_kept_of
  have nd:=lz.nd
  exact h.fn lz rfl rfl (fun cdv A outer s H E hr=>(@av _ _ _ _ _ (@aB _ _ _ _ _ (@aW _ _ _ _ _ _ _ _ _ (@b_sum _ _ _ rfl hr) (by rfl) T.b_sum ((@el _ _ _ _ _ _ _ _ _ _ _ _ _ [(0,"web")] ["tie"] rfl rfl (@fP _ _ _ _ _ rfl (@bD _ _ _ _ _ _ _ _ _ _ _ _ _ _ _ M9 NC (hr.mono (by decide)) ((¬1)∘af) (by rfl) (by decide) (by rfl) (by rfl)))
        (fun C s0 H0 fp=>(@aI _ _ _ 1 _ (show Ra (["web","tie"]:List Str) by decide+kernel) rfl (Or.inl rfl) (by trivial))) (fun C s0 H0 fp=>(@mY _ _))
        (fun C s0 H0 fp=>(@cD _ _ _ _ _ _ _ rfl (@cD _ _ _ _ _ _ _ rfl (@cD _ _ _ _ _ _ _ rfl (¬0) ag (fun _ _=>rfl)) (¬1) (fun _ _=>rfl)) ag (fun _ _=>rfl))) rfl (by rfl) (by intro _;rfl))∘af) (by decide) (by decide) (by rfl) (by rfl)))))
noncomputable def kj:FI:=(ek (ac (aA (g1 dJ) (ac (aw dC (ae 0) (vC (.int 1))) aj)) aj))
noncomputable def gb:FT:=(aE (cB 3 dO (ac (ae 0) (ac (ae 1) (ac (ae 2) aj)))))
noncomputable def gp:FE:=(ae 2)
noncomputable def rG:FS:=(bf (cf [(0,"web"),(1,"stand")] 1 kj (aq 2) gb gp))
noncomputable def i_:FM:=gQ 2 0 [] rG
theorem qG:az ["web","stand"] ["web","stand"] (ar jj):=⟨rfl,rfl,rfl,by decide+kernel,rfl,by decide+kernel,by decide+kernel⟩
theorem xm(h:fy K mg "asks_at" jj f fd ["web","stand"])(T:ck mg)(z_may_ask:Cl P w K mg base "may_ask" ik ["web","stand","tie"] 4 3 dO):aP P w K mg base cM 5 f fd ["web","stand"] (eA K 2 i_):=by
  obtain⟨ND,NE,M4,M_⟩:=z_may_ask
  have nd:=qG.nd
  exact h.fn qG rfl rfl (fun cdv A outer s H E hr=>(@av _ _ _ _ _ (@aB _ _ _ _ _ (@el _ _ _ _ _ _ _ _ _ _ _ _ _ [(0,"web"),(1,"stand")] ["tie"] rfl rfl (@eM _ _ _ _ _ _ _ rfl T.b_range ((@aW _ _ _ _ _ _ _ _ _ (@b_len _ _ rfl) (by rfl) T.b_len ((@cD _ _ _ _ _ _ _ rfl (¬0) ag (fun _ _=>rfl))∘af) (by decide) (by decide) (by rfl) (by rfl))∘af) (by rfl))
        (fun C s0 H0 fp=>(@aI _ _ _ 2 _ (show Ra (["web","stand","tie"]:List Str) by decide+kernel) rfl (Or.inl rfl) (by trivial))) (fun C s0 H0 fp=>(@jL _ _ _ _ (@gL _ _ _ _ (@bD _ _ _ _ _ _ _ _ _ _ _ _ _ _ _ M4 M_ (hr.mono (by decide)) ((¬0)∘((¬1)∘((¬2)∘af))) (by rfl) (by decide) (by rfl) (by rfl)) (by intro _;rfl))))
        (fun C s0 H0 fp=>(¬2)) rfl (by rfl) (by intro _;rfl)))))
noncomputable def i8:FI:=(ki (ae 1))
noncomputable def iZ:FS:=(aS 2 (cB 4 b6 (ac (ae 0) (ac (ae 2) (ac (ae 3) (ac (ae 4) aj))))))
noncomputable def j6:FS:=(aJ (aS 2 (vC (.tuple [.tuple [],.tuple []])))
    (aJ (jM (([3]++([4]++[]))++[2]) i8 (cn (aF (aq 3) (aF (aq 4) bT))) iZ)
    (bf (ae 2))))
noncomputable def b7:FM:=gQ 2 3 ([2]++((([3]++([4]++[]))++[2])++[])) j6
theorem jX:az ["web","run","stand","tie","truth"] ["web","run"] (ar cJ):=⟨rfl,rfl,rfl,by decide+kernel,rfl,by decide+kernel,by decide+kernel⟩
theorem pe(h:fy K mg "stand_of_run" cJ f fd ["web","run"])(T:ck mg)(z_stand_behind:Cl P w K mg base "stand_behind" dz ["web","stand","tie","truth"] 2 4 b6){g_FIRST_STAND:xM}(m_FIRST_STAND:mg "FIRST_STAND"=some (.ref g_FIRST_STAND))(c_FIRST_STAND:∀F,DA K F (.tuple [.tuple [],.tuple []]) (.ref g_FIRST_STAND)):aP P w K mg base cM 3 f fd ["web","run"] (eA K 2 b7):=by
  obtain⟨Ot,Ou,MY,NJ⟩:=z_stand_behind
  have nd:=jX.nd
  exact h.fn jX rfl rfl (fun cdv A outer s H E hr=>(@ah _ _ _ _ _ _ _ _ (@aH _ _ _ _ _ 2 _ _ nd rfl (Or.inl rfl) (@yw _ _ _ (V.ref g_FIRST_STAND) _ _ (PyData.tuple [.tuple [],.tuple []]) rfl m_FIRST_STAND rfl c_FIRST_STAND (by decide)) (by rfl) (by trivial))
      (@ah _ _ _ _ _ _ _ _ (@lV _ _ _ _ _ _ _ _ _ _ _ RF rfl (@fP _ _ _ _ _ rfl (¬1)) (@iW _ _ _ _ _ _ _ _ rfl rfl (@a_ _ _ _ _ _ _ _ _ (@aI _ _ _ 3 _ nd rfl (Or.inl rfl) (by trivial)) (@a_ _ _ _ _ _ _ _ _ (@aI _ _ _ 4 _ nd rfl (Or.inl rfl) (by trivial)) (@er _ _) (by rfl)) (by rfl)) (bA (bA gH)) (by rfl) (by rfl))
      (@av _ _ _ _ _ (@aH _ _ _ _ _ 2 _ _ nd rfl (Or.inl rfl) (@bD _ _ _ _ _ _ _ _ _ _ _ _ _ _ _ MY NJ (hr.mono (by decide)) ((¬0)∘((¬2)∘((¬3)∘((¬4)∘af)))) (by rfl) (by decide) (by rfl) (by rfl)) (by rfl) (by trivial))) (by intro _;rfl))
      (@av _ _ _ _ _ (@aB _ _ _ _ _ (¬2))))))
noncomputable def lE:FS:=(aJ (aS 2 (cB 2 i_ (ac (ae 0) (ac (cB 2 b7 (ac (ae 0) (ac (ae 1) aj))) aj))))
    (bf (xO (aE (aw Co (aA (g1 dJ) (ac (ae 2) aj)) (vC (.int 0)))) (cB 1 cQ (ac (ae 2) aj)) (vC (.str ("none":Str))))))
noncomputable def eD:FM:=gQ 2 1 ([2]++[]) lE
theorem oQ:az ["web","run","ties"] ["web","run"] (ar iF):=⟨rfl,rfl,rfl,by decide+kernel,rfl,by decide+kernel,by decide+kernel⟩
theorem vz(h:fy K mg "may_line" iF f fd ["web","run"])(T:ck mg)(z_asks_at:Cl P w K mg base "asks_at" jj ["web","stand"] 5 2 i_)(z_stand_of_run:Cl P w K mg base "stand_of_run" cJ ["web","run"] 3 2 b7)(z_row_line:Cl P w K mg base "row_line" fR ["row"] 1 1 cQ):aP P w K mg base cM 6 f fd ["web","run"] (eA K 2 eD):=by
  obtain⟨OL,OM,Nl,Oa⟩:=z_asks_at
  obtain⟨M7,M8,MQ,MR⟩:=z_stand_of_run
  obtain⟨N3,N4,M0,Nr⟩:=z_row_line
  have nd:=oQ.nd
  exact h.fn oQ rfl rfl (fun cdv A outer s H E hr=>(@ah _ _ _ _ _ _ _ _ (@aH _ _ _ _ _ 2 _ _ nd rfl (Or.inl rfl) (@bD _ _ _ _ _ _ _ _ _ _ _ _ _ _ _ Nl Oa (hr.mono (by decide)) ((¬0)∘((@bD _ _ _ _ _ _ _ _ _ _ _ _ _ _ _ MQ MR (hr.mono (by decide)) ((¬0)∘((¬1)∘af)) (by rfl) (by decide) (by rfl) (by rfl))∘af)) (by rfl) (by decide) (by rfl) (by rfl)) (by rfl) (by trivial))
      (@av _ _ _ _ _ (@aB _ _ _ _ _ (@mV _ _ _ _ _ _ _ _ _ (@aQ _ _ _ _ _ _ _ _ _ (@yU _ _) (@aW _ _ _ _ _ _ _ _ _ (@b_len _ _ rfl) (by rfl) T.b_len ((¬2)∘af) (by decide) (by decide) (by rfl) (by rfl)) ag (aL _)) (@bD _ _ _ _ _ _ _ _ _ _ _ _ _ _ _ M0 Nr (hr.mono (by decide)) ((¬2)∘af) (by rfl) (by decide) (by rfl) (by rfl)) (@am _ _ _ _ _))))))
noncomputable def j5:FS:=(aJ (aS 2 (cB 1 fL (ac (ae 1) aj)))
    (bf (cB 1 cQ (ac (aw bi (xO (aE (aw Co (aA (g1 dJ) (ac (ae 2) aj)) (vC (.int 0)))) (ae 2) (c9 (ac (vC (.str ("none":Str))) aj))) (c9 (ac (cB 2 ff (ac (ae 0) (ac (ae 1) aj))) aj))) aj))))
noncomputable def du:FM:=gQ 2 1 ([2]++[]) j5
theorem m8:az ["web","run","kept"] ["web","run"] (ar gB):=⟨rfl,rfl,rfl,by decide+kernel,rfl,by decide+kernel,by decide+kernel⟩
theorem ue(h:fy K mg "kept_line" gB f fd ["web","run"])(T:ck mg)(z_kept_of:Cl P w K mg base "kept_of" ij ["run"] 1 1 fL)(z_row_line:Cl P w K mg base "row_line" fR ["row"] 1 1 cQ)(z_worth_kept:Cl P w K mg base "worth_kept" fx ["web","run"] 2 2 ff):aP P w K mg base cM 3 f fd ["web","run"] (eA K 2 du):=by
  obtain⟨N_,N',M9,NC⟩:=z_kept_of
  obtain⟨N3,N4,M0,Nr⟩:=z_row_line
  obtain⟨Oz,OA,M5,NQ⟩:=z_worth_kept
  have nd:=m8.nd
  exact h.fn m8 rfl rfl (fun cdv A outer s H E hr=>(@ah _ _ _ _ _ _ _ _ (@aH _ _ _ _ _ 2 _ _ nd rfl (Or.inl rfl) (@bD _ _ _ _ _ _ _ _ _ _ _ _ _ _ _ M9 NC (hr.mono (by decide)) ((¬1)∘af) (by rfl) (by decide) (by rfl) (by rfl)) (by rfl) (by trivial))
      (@av _ _ _ _ _ (@aB _ _ _ _ _ (@bD _ _ _ _ _ _ _ _ _ _ _ _ _ _ _ M0 Nr (hr.mono (by decide)) ((@ce _ _ _ _ _ _ _ rfl (@mV _ _ _ _ _ _ _ _ _ (@aQ _ _ _ _ _ _ _ _ _ (@yU _ _) (@aW _ _ _ _ _ _ _ _ _ (@b_len _ _ rfl) (by rfl) T.b_len ((¬2)∘af) (by decide) (by decide) (by rfl) (by rfl)) ag (aL _)) (¬2) (@bM _ _ _ _ _ _ ((@am _ _ _ _ _)∘af))) (@bM _ _ _ _ _ _ ((@bD _ _ _ _ _ _ _ _ _ _ _ _ _ _ _ M5 NQ (hr.mono (by decide)) ((¬0)∘((¬1)∘af)) (by rfl) (by decide) (by rfl) (by rfl))∘af)))∘af) (by rfl) (by decide) (by rfl) (by rfl))))))
noncomputable def cm:FS:=(aJ (aS 2 (aw iB (ae 1) (vC (.str (" ":Str)))))
    (aJ (je (uG (aE (aw (bH true) (aA (g1 dJ) (ac (ae 2) aj)) (vC (.int 2)))) (aE (aw (bH true) (aw dC (ae 2) (vC (.int 0))) (vC (.str ("ask":Str))))))
    (bf (vC .none))
    dh)
    (aJ (aS 3 (cB 1 bX (ac (aw dC (ae 2) (vC (.int 1))) aj)))
    (bf (xO (lq (aE (aw lK (ae 3) (vC .none))) (aE (aw wK (ae 3) (aA (g1 dJ) (ac (aw dC (ae 0) (vC (.int 1))) aj))))) (ae 3) (vC .none))))))
noncomputable def bo:FM:=gQ 2 2 ([2]++(([]++[])++([3]++[]))) cm
theorem ly:az ["web","line","words","tie"] ["web","line"] (ar fw):=⟨rfl,rfl,rfl,by decide+kernel,rfl,by decide+kernel,by decide+kernel⟩
theorem rg(h:fy K mg "tie_to_ask" fw f fd ["web","line"])(T:ck mg)(z_number_of:Cl P w K mg base "number_of" gD ["word"] 1 1 bX):aP P w K mg base cM 2 f fd ["web","line"] (eA K 2 bo):=by
  obtain⟨OD,OE,Nb,NU⟩:=z_number_of
  have nd:=ly.nd
  exact h.fn ly rfl rfl (fun cdv A outer s H E hr=>(@ah _ _ _ _ _ _ _ _ (@aH _ _ _ _ _ 2 _ _ nd rfl (Or.inl rfl) (@DU _ _ _ _ _ _ _ _ (¬1) (@am _ _ _ _ _) (by rfl) (by rfl) (by rfl) (by rfl) (by rfl)) (by rfl) (by trivial))
      (@ah _ _ _ _ _ _ _ _ (@cW _ _ _ _ _ _ _ _ _ _ _ (@rk _ _ _ _ (@sv _ _ _ _ _ _ _ _ (@aQ _ _ _ _ _ _ _ _ _ (@wC _ _ _ rfl hr) (@aW _ _ _ _ _ _ _ _ _ (@b_len _ _ rfl) (by rfl) T.b_len ((¬2)∘af) (by decide) (by decide) (by rfl) (by rfl)) ag (aL _)) (@nX _ _ _ _ _ (@aQ _ _ _ _ _ _ _ _ _ (@wC _ _ _ rfl hr) (@cD _ _ _ _ _ _ _ rfl (¬2) ag (fun _ _=>rfl)) (@am _ _ _ _ _) (aL _)))))
      (@av _ _ _ _ _ (@aB _ _ _ _ _ (@gK _ _ _ _)))
      (@br _ _))
      (@ah _ _ _ _ _ _ _ _ (@aH _ _ _ _ _ 3 _ _ nd rfl (Or.inl rfl) (@bD _ _ _ _ _ _ _ _ _ _ _ _ _ _ _ Nb NU (hr.mono (by decide)) ((@cD _ _ _ _ _ _ _ rfl (¬2) ag (fun _ _=>rfl))∘af) (by rfl) (by decide) (by rfl) (by rfl)) (by rfl) (by trivial))
      (@av _ _ _ _ _ (@aB _ _ _ _ _ (@mV _ _ _ _ _ _ _ _ _ (@rk _ _ _ _ (@um _ _ _ _ _ _ _ _ (@aQ _ _ _ _ _ _ _ _ _ (@tF _ _) (¬3) (@gK _ _ _ _) (aL _)) (@pA _ _ _ _ _ (@aQ _ _ _ _ _ _ _ _ _ (@wB _ _) (¬3) (@aW _ _ _ _ _ _ _ _ _ (@b_len _ _ rfl) (by rfl) T.b_len ((@cD _ _ _ _ _ _ _ rfl (¬0) ag (fun _ _=>rfl))∘af) (by decide) (by decide) (by rfl) (by rfl)) (aL _))))) (¬3) (@gK _ _ _ _))))))))
noncomputable def xV:FS:=(aJ (aS 2 (aw bB (aw bi (aw bi (aw lm (aw bB (ae 0) (vC (.int 2147483647))) (vC (.int 48271))) (aw lm (aw lm (vC (.int 7919)) (ae 1)) (ae 1))) (vC (.int 104729))) (vC (.int 2147483647))))
    (bf (aw bB (aw lm (ae 2) (ae 2)) (vC (.int 2147483629)))))
noncomputable def k_:FM:=gQ 2 1 ([2]++[]) xV
theorem vN:az ["_law_cell","_law_k","_law_number"] ["_law_cell","_law_k"] (ar m5):=⟨rfl,rfl,rfl,by decide+kernel,rfl,by decide+kernel,by decide+kernel⟩
theorem AX(h:fy K mg "_law_mixed" m5 f fd ["_law_cell","_law_k"])(T:ck mg):aP P w K mg base cM 1 f fd ["_law_cell","_law_k"] (eA K 2 k_):=by
  have nd:=vN.nd
  exact h.fn vN rfl rfl (fun cdv A outer s H E hr=>(@ah _ _ _ _ _ _ _ _ (@aH _ _ _ _ _ 2 _ _ nd rfl (Or.inl rfl) (@bF _ _ _ _ _ _ _ (@ce _ _ _ _ _ _ _ rfl (@ce _ _ _ _ _ _ _ rfl (@ql _ _ _ _ _ _ _ rfl (@bF _ _ _ _ _ _ _ (¬0) ag) ag) (@ql _ _ _ _ _ _ _ rfl (@ql _ _ _ _ _ _ _ rfl ag (¬1)) (¬1))) ag) ag) (by rfl) (by trivial))
      (@av _ _ _ _ _ (@aB _ _ _ _ _ (@bF _ _ _ _ _ _ _ (@ql _ _ _ _ _ _ _ rfl (¬2) (¬2)) ag)))))
noncomputable def ic:FT:=(lq (aE (aw Cn (ae 3) (aw wN (vC (.int 10)) (vC (.int 18))))) (aE (aw wK (aA (g1 dJ) (ac (ae 1) aj)) (vC (.int 900)))))
noncomputable def kR:FS:=(aJ (iC (eO cu (ae 1) (ac (aw bB (ae 3) (vC (.int 2147483629))) aj)))
    (aS 3 (aw dq (ae 3) (vC (.int 2147483629)))))
noncomputable def kY:FI:=(ek (ac (vC (.int 12)) aj))
noncomputable def iX:FS:=(iC (eO cu (ae 1) (ac (cB 2 k_ (ac (cB 2 k_ (ac (ae 3) (ac (aw bi (aw lm (vC (.int 3)) (ae 4)) (vC (.int 1))) aj))) (ac (aw bi (aw bi (ae 4) (ae 2)) (vC (.int 2))) aj))) aj)))
noncomputable def nI:FI:=(ek (ac (aA (g2 Ai) (ac (aA (g1 dJ) (ac (ae 0) aj)) (ac (vC (.int 63)) aj))) aj))
noncomputable def h9:FS:=(aJ (aS 3 (aA (g1 y9) (ac (aw dC (ae 0) (ae 2)) aj)))
    (aJ (je (aE (aw wK (ae 3) (aw wN (vC (.int 10)) (vC (.int 18)))))
    (jM ([4]++[]) kY (aq 4) iX)
    dh)
    (aJ (qA (2 ^ 4200) ic kR)
    (je (aE (aw Cn (ae 3) (vC (.int 2147483629))))
    (iC (eO cu (ae 1) (ac (aw bB (ae 3) (vC (.int 2147483629))) aj)))
    dh))))
noncomputable def xU:FS:=(aJ (aS 1 (cc aj))
    (aJ (jM ([2]++([3]++((([4]++[])++[])++(([]++[3])++([]++[]))))) nI (aq 2) h9)
    (bf (ae 1))))
noncomputable def k9:FM:=gQ 1 4 ([1]++(([2]++([3]++((([4]++[])++[])++(([]++[3])++([]++[])))))++[])) xU
theorem vM:az ["_law_script","_law_drawn","_law_k","_law_cell","_law_j"] ["_law_script"] (ar mZ):=⟨rfl,rfl,rfl,by decide+kernel,rfl,by decide+kernel,by decide+kernel⟩
theorem AW(h:fy K mg "_law_draws" mZ f fd ["_law_script"])(T:ck mg)(zLmixed:Cl P w K mg base "_law_mixed" m5 ["_law_cell","_law_k"] 1 2 k_):aP P w K mg base cM 2 f fd ["_law_script"] (eA K 1 k9):=by
  obtain⟨O6,O7,NF,Oc⟩:=zLmixed
  have nd:=vM.nd
  exact h.fn vM rfl rfl (fun cdv A outer s H E hr=>(@ah _ _ _ _ _ _ _ _ (@aH _ _ _ _ _ 1 _ _ nd rfl (Or.inl rfl) (@bO _ _ _ _ _ af) (by rfl) (by trivial))
      (@ah _ _ _ _ _ _ _ _ (@lV _ _ _ _ _ _ _ _ _ _ _ RF rfl (@eM _ _ _ _ _ _ _ rfl T.b_range ((@aW _ _ _ _ _ _ _ _ _ (@b_min _ _ rfl) (by rfl) T.b_min ((@aW _ _ _ _ _ _ _ _ _ (@b_len _ _ rfl) (by rfl) T.b_len ((¬0)∘af) (by decide) (by decide) (by rfl) (by rfl))∘(ag∘af)) (by decide) (by decide) (by rfl) (by rfl))∘af) (by rfl)) (@aI _ _ _ 2 _ nd rfl (Or.inl rfl) (by trivial))
      (@ah _ _ _ _ _ _ _ _ (@aH _ _ _ _ _ 3 _ _ nd rfl (Or.inl rfl) (@aW _ _ _ _ _ _ _ _ _ (@b_abs _ _) (by rfl) T.b_abs ((@cD _ _ _ _ _ _ _ rfl (¬0) (¬2) (fun _ _=>rfl))∘af) (by decide) (by decide) (by rfl) (by rfl)) (by rfl) (by trivial))
      (@ah _ _ _ _ _ _ _ _ (@cW _ _ _ _ _ _ _ _ _ _ _ (@aQ _ _ _ _ _ _ _ _ _ (@wB _ _) (¬3) (@E1 _ _ _ _ _ _ _ ag ag) (aL _))
      (@av _ _ _ _ _ (@lV _ _ _ _ _ _ _ _ _ _ _ RF rfl (@eM _ _ _ _ _ _ _ rfl T.b_range (ag∘af) (by rfl)) (@aI _ _ _ 4 _ nd rfl (Or.inl rfl) (by trivial))
      (@av _ _ _ _ _ (@mX _ _ _ _ _ (@ku _ _ _ _ _ _ _ _ _ rfl (¬1) ((@bD _ _ _ _ _ _ _ _ _ _ _ _ _ _ _ NF Oc (hr.mono (by decide)) ((@bD _ _ _ _ _ _ _ _ _ _ _ _ _ _ _ NF Oc (hr.mono (by decide)) ((¬3)∘((@ce _ _ _ _ _ _ _ rfl (@ql _ _ _ _ _ _ _ rfl ag (¬4)) ag)∘af)) (by rfl) (by decide) (by rfl) (by rfl))∘((@ce _ _ _ _ _ _ _ rfl (@ce _ _ _ _ _ _ _ rfl (¬4) (¬2)) ag)∘af)) (by rfl) (by decide) (by rfl) (by rfl))∘af) (by rfl) (by rfl) (by rfl) (by rfl) (by rfl)) (by rfl))) (by intro _;rfl)))
      (@br _ _))
      (@ah _ _ _ _ _ _ _ _ (@vF _ _ _ _ _ _ _ _ _ RF (@rk _ _ _ _ (@um _ _ _ _ _ _ _ _ (@aQ _ _ _ _ _ _ _ _ _ (@yT _ _) (¬3) (@E1 _ _ _ _ _ _ _ ag ag) (aL _)) (@pA _ _ _ _ _ (@aQ _ _ _ _ _ _ _ _ _ (@wB _ _) (@aW _ _ _ _ _ _ _ _ _ (@b_len _ _ rfl) (by rfl) T.b_len ((¬1)∘af) (by decide) (by decide) (by rfl) (by rfl)) ag (aL _)))))
      (@ah _ _ _ _ _ _ _ _ (@mX _ _ _ _ _ (@ku _ _ _ _ _ _ _ _ _ rfl (¬1) ((@bF _ _ _ _ _ _ _ (¬3) ag)∘af) (by rfl) (by rfl) (by rfl) (by rfl) (by rfl)) (by rfl))
      (@av _ _ _ _ _ (@aH _ _ _ _ _ 3 _ _ nd rfl (Or.inl rfl) (@iV _ _ _ _ _ _ _ (¬3) ag) (by rfl) (by trivial)))))
      (@av _ _ _ _ _ (@cW _ _ _ _ _ _ _ _ _ _ _ (@aQ _ _ _ _ _ _ _ _ _ (@yT _ _) (¬3) ag (aL _))
      (@av _ _ _ _ _ (@mX _ _ _ _ _ (@ku _ _ _ _ _ _ _ _ _ rfl (¬1) ((@bF _ _ _ _ _ _ _ (¬3) ag)∘af) (by rfl) (by rfl) (by rfl) (by rfl) (by rfl)) (by rfl)))
      (@br _ _)))))) (by intro _;rfl))
      (@av _ _ _ _ _ (@aB _ _ _ _ _ (¬1))))))
noncomputable def wA:FS:=(aJ (je (aE (aw (bH false) (ae 0) (cc aj)))
    (bf (vC (.int 0)))
    dh)
    (bf (eO fK (ae 0) (ac (vC (.int 0)) aj))))
noncomputable def bL:FM:=gQ 1 0 (([]++[])++[]) wA
theorem yG:az ["_law_drawn"] ["_law_drawn"] (ar kJ):=⟨rfl,rfl,rfl,by decide+kernel,rfl,by decide+kernel,by decide+kernel⟩
theorem Dh(h:fy K mg "_law_next" kJ f fd ["_law_drawn"])(T:ck mg):aP P w K mg base cM 1 f fd ["_law_drawn"] (eA K 1 bL):=by
  have nd:=yG.nd
  exact h.fn yG rfl rfl (fun cdv A outer s H E hr=>(@ah _ _ _ _ _ _ _ _ (@cW _ _ _ _ _ _ _ _ _ _ _ (@aQ _ _ _ _ _ _ _ _ _ (@j7 _ _ _ rfl hr) (¬0) (@bO _ _ _ _ _ af) (aL _))
      (@av _ _ _ _ _ (@aB _ _ _ _ _ ag))
      (@br _ _))
      (@av _ _ _ _ _ (@aB _ _ _ _ _ (@DT _ _ _ _ _ _ _ _ _ rfl (¬0) (ag∘af) (by rfl) (by rfl) (by rfl) (by rfl) (by rfl))))))
noncomputable def ma:FT:=(aE (aw (bH true) (ae 1) (vC (.int 0))))
noncomputable def pv:FS:=(pj 0 1 (ac (ae 1) (ac (aw bB (ae 0) (ae 1)) aj)))
noncomputable def ED:FS:=(aJ (qA (2 ^ 4200) ma pv)
    (bf (aA (g1 y9) (ac (ae 0) aj))))
noncomputable def vk:FM:=gQ 2 0 ([0,1]++[]) ED
theorem BP:az ["_law_one","_law_other"] ["_law_one","_law_other"] (ar vI):=⟨rfl,rfl,rfl,by decide+kernel,rfl,by decide+kernel,by decide+kernel⟩
theorem GL(h:fy K mg "_law_gcd" vI f fd ["_law_one","_law_other"])(T:ck mg):aP P w K mg base cM 1 f fd ["_law_one","_law_other"] (eA K 2 vk):=by
  have nd:=BP.nd
  exact h.fn BP rfl rfl (fun cdv A outer s H E hr=>(@ah _ _ _ _ _ _ _ _ (@vF _ _ _ _ _ _ _ _ _ RF (@aQ _ _ _ _ _ _ _ _ _ (@wC _ _ _ rfl hr) (¬1) ag (aL _))
      (@av _ _ _ _ _ (@Hs _ _ _ _ _ 0 1 _ _ _ _ _ _ _ _ _ rfl nd rfl rfl (by decide) rfl rfl ((¬1)∘((@bF _ _ _ _ _ _ _ (¬0) (¬1))∘af)) (by rfl) (by rfl))))
      (@av _ _ _ _ _ (@aB _ _ _ _ _ (@aW _ _ _ _ _ _ _ _ _ (@b_abs _ _) (by rfl) T.b_abs ((¬0)∘af) (by decide) (by decide) (by rfl) (by rfl))))))
noncomputable def EE:FS:=(aJ (aS 2 (cB 2 vk (ac (ae 0) (ac (ae 1) aj))))
    (bf (c9 (ac (aw dq (ae 0) (ae 2)) (ac (aw dq (ae 1) (ae 2)) aj)))))
noncomputable def r_:FM:=gQ 2 1 ([2]++[]) EE
theorem BQ:az ["_law_top","_law_bottom","_law_common"] ["_law_top","_law_bottom"] (ar vJ):=⟨rfl,rfl,rfl,by decide+kernel,rfl,by decide+kernel,by decide+kernel⟩
theorem GM(h:fy K mg "_law_low" vJ f fd ["_law_top","_law_bottom"])(T:ck mg)(zLgcd:Cl P w K mg base "_law_gcd" vI ["_law_one","_law_other"] 1 2 vk):aP P w K mg base cM 2 f fd ["_law_top","_law_bottom"] (eA K 2 r_):=by
  obtain⟨Pl,Pm,Ov,O8⟩:=zLgcd
  have nd:=BQ.nd
  exact h.fn BQ rfl rfl (fun cdv A outer s H E hr=>(@ah _ _ _ _ _ _ _ _ (@aH _ _ _ _ _ 2 _ _ nd rfl (Or.inl rfl) (@bD _ _ _ _ _ _ _ _ _ _ _ _ _ _ _ Ov O8 (hr.mono (by decide)) ((¬0)∘((¬1)∘af)) (by rfl) (by decide) (by rfl) (by rfl)) (by rfl) (by trivial))
      (@av _ _ _ _ _ (@aB _ _ _ _ _ (@bM _ _ _ _ _ _ ((@iV _ _ _ _ _ _ _ (¬0) (¬2))∘((@iV _ _ _ _ _ _ _ (¬1) (¬2))∘af)))))))
noncomputable def j4:FS:=(aJ (je (aE (aw (bH false) (ae 1) (vC (.int 0))))
    (bf (aw dC (cc (ac (c9 (ac (vC (.int 1)) (ac (vC (.int 2)) aj))) (ac (c9 (ac (vC (.int 1)) (ac (vC (.int 3)) aj))) (ac (c9 (ac (vC (.int 2)) (ac (vC (.int 3)) aj))) (ac (c9 (ac (vC (.int 1)) (ac (vC (.int 1)) aj))) (ac (c9 (ac (vC (.int 0)) (ac (vC (.int 1)) aj))) (ac (c9 (ac (vC (.int 3)) (ac (vC (.int 4)) aj))) aj))))))) (aw bB (ae 0) (vC (.int 6)))))
    dh)
    (aJ (je (aE (aw (bH false) (ae 1) (vC (.int 1))))
    (aJ (aS 2 (aw bi (vC (.int 2)) (aw bB (ae 0) (vC (.int 9)))))
    (bf (cB 2 r_ (ac (aw bi (vC (.int 1)) (aw bB (aw dq (ae 0) (vC (.int 9))) (aw lL (ae 2) (vC (.int 1))))) (ac (ae 2) aj)))))
    dh)
    (aJ (je (aE (aw (bH false) (ae 1) (vC (.int 2))))
    (aJ (aS 2 (aw bi (vC (.int 1)) (aw bB (ae 0) (vC (.int 100)))))
    (bf (cB 2 r_ (ac (aw bB (aw dq (ae 0) (vC (.int 100))) (aw bi (ae 2) (vC (.int 1)))) (ac (ae 2) aj)))))
    dh)
    (bf (c9 (ac (vC (.int 1)) (ac (vC (.int 1)) aj)))))))
noncomputable def gr:FM:=gQ 2 1 (([]++[])++((([2]++[])++[])++((([2]++[])++[])++[]))) j4
theorem sC:az ["_law_number","_law_kind","_law_bottom"] ["_law_number","_law_kind"] (ar kG):=⟨rfl,rfl,rfl,by decide+kernel,rfl,by decide+kernel,by decide+kernel⟩
theorem zt(h:fy K mg "_law_chance" kG f fd ["_law_number","_law_kind"])(T:ck mg)(zLlow:Cl P w K mg base "_law_low" vJ ["_law_top","_law_bottom"] 2 2 r_):aP P w K mg base cM 3 f fd ["_law_number","_law_kind"] (eA K 2 gr):=by
  obtain⟨Pn,Po,Oe,ON⟩:=zLlow
  have nd:=sC.nd
  exact h.fn sC rfl rfl (fun cdv A outer s H E hr=>(@ah _ _ _ _ _ _ _ _ (@cW _ _ _ _ _ _ _ _ _ _ _ (@aQ _ _ _ _ _ _ _ _ _ (@j7 _ _ _ rfl hr) (¬1) ag (aL _))
      (@av _ _ _ _ _ (@aB _ _ _ _ _ (@cD _ _ _ _ _ _ _ rfl (@bO _ _ _ _ _ ((@bM _ _ _ _ _ _ (ag∘(ag∘af)))∘((@bM _ _ _ _ _ _ (ag∘(ag∘af)))∘((@bM _ _ _ _ _ _ (ag∘(ag∘af)))∘((@bM _ _ _ _ _ _ (ag∘(ag∘af)))∘((@bM _ _ _ _ _ _ (ag∘(ag∘af)))∘((@bM _ _ _ _ _ _ (ag∘(ag∘af)))∘af))))))) (@bF _ _ _ _ _ _ _ (¬0) ag) (fun _ _=>rfl))))
      (@br _ _))
      (@ah _ _ _ _ _ _ _ _ (@cW _ _ _ _ _ _ _ _ _ _ _ (@aQ _ _ _ _ _ _ _ _ _ (@j7 _ _ _ rfl hr) (¬1) ag (aL _))
      (@ah _ _ _ _ _ _ _ _ (@aH _ _ _ _ _ 2 _ _ nd rfl (Or.inl rfl) (@ce _ _ _ _ _ _ _ rfl ag (@bF _ _ _ _ _ _ _ (¬0) ag)) (by rfl) (by trivial))
      (@av _ _ _ _ _ (@aB _ _ _ _ _ (@bD _ _ _ _ _ _ _ _ _ _ _ _ _ _ _ Oe ON (hr.mono (by decide)) ((@ce _ _ _ _ _ _ _ rfl ag (@bF _ _ _ _ _ _ _ (@iV _ _ _ _ _ _ _ (¬0) ag) (@yu _ _ _ _ _ _ _ (¬2) ag)))∘((¬2)∘af)) (by rfl) (by decide) (by rfl) (by rfl)))))
      (@br _ _))
      (@ah _ _ _ _ _ _ _ _ (@cW _ _ _ _ _ _ _ _ _ _ _ (@aQ _ _ _ _ _ _ _ _ _ (@j7 _ _ _ rfl hr) (¬1) ag (aL _))
      (@ah _ _ _ _ _ _ _ _ (@aH _ _ _ _ _ 2 _ _ nd rfl (Or.inl rfl) (@ce _ _ _ _ _ _ _ rfl ag (@bF _ _ _ _ _ _ _ (¬0) ag)) (by rfl) (by trivial))
      (@av _ _ _ _ _ (@aB _ _ _ _ _ (@bD _ _ _ _ _ _ _ _ _ _ _ _ _ _ _ Oe ON (hr.mono (by decide)) ((@bF _ _ _ _ _ _ _ (@iV _ _ _ _ _ _ _ (¬0) ag) (@ce _ _ _ _ _ _ _ rfl (¬2) ag))∘((¬2)∘af)) (by rfl) (by decide) (by rfl) (by rfl)))))
      (@br _ _))
      (@av _ _ _ _ _ (@aB _ _ _ _ _ (@bM _ _ _ _ _ _ (ag∘(ag∘af)))))))))
noncomputable def xX:FS:=(bf (aw dC (cc (ac (aw bB (ae 0) (vC (.int 7))) (ac (aw bi (vC (.int 5)) (aw bB (ae 0) (vC (.int 2)))) (ac (aw bB (ae 0) (vC (.int 1001))) (ac (aw lL (vC (.int 1000)) (aw bB (ae 0) (vC (.int 3)))) aj))))) (aw bB (ae 1) (vC (.int 4)))))
noncomputable def mK:FM:=gQ 2 0 [] xX
theorem vP:az ["_law_number","_law_kind"] ["_law_number","_law_kind"] (ar m6):=⟨rfl,rfl,rfl,by decide+kernel,rfl,by decide+kernel,by decide+kernel⟩
theorem AZ(h:fy K mg "_law_worth" m6 f fd ["_law_number","_law_kind"])(T:ck mg):aP P w K mg base cM 1 f fd ["_law_number","_law_kind"] (eA K 2 mK):=by
  have nd:=vP.nd
  exact h.fn vP rfl rfl (fun cdv A outer s H E hr=>(@av _ _ _ _ _ (@aB _ _ _ _ _ (@cD _ _ _ _ _ _ _ rfl (@bO _ _ _ _ _ ((@bF _ _ _ _ _ _ _ (¬0) ag)∘((@ce _ _ _ _ _ _ _ rfl ag (@bF _ _ _ _ _ _ _ (¬0) ag))∘((@bF _ _ _ _ _ _ _ (¬0) ag)∘((@yu _ _ _ _ _ _ _ ag (@bF _ _ _ _ _ _ _ (¬0) ag))∘af))))) (@bF _ _ _ _ _ _ _ (¬1) ag) (fun _ _=>rfl)))))
noncomputable def pU:FI:=(ek (ac (ae 2) aj))
noncomputable def iY:FS:=(aJ (aS 8 (cB 1 bL (ac (ae 0) aj)))
    (aJ (aS 9 (aw dC (cc (ac (aw bB (ae 8) (ae 1)) (ac (vC (.int 0)) (ac (aw bB (ae 7) (ae 1)) (ac (aw bB (ae 8) (ae 1)) (ac (aw bB (ae 8) (vC (.int 2))) (ac (aw bB (ae 8) (ae 1)) aj))))))) (ae 3)))
    (aJ (aS 10 (aw bB (aw bi (aw bi (ae 9) (vC (.int 1))) (aw bB (aw dq (ae 8) (vC (.int 12))) (aw lL (ae 1) (vC (.int 1))))) (ae 1)))
    (aJ (je (aE (aw (bH false) (ae 3) (vC (.int 4))))
    (lp (c9 (ac (vC (.int 0)) (ac (vC (.int 1)) aj))) (cn (aF (aq 9) (aF (aq 10) bT))))
    dh)
    (aJ (aS 11 (cB 1 bL (ac (ae 0) aj)))
    (aJ (aS 12 (c9 (ac (aA (g2 Ai) (ac (ae 9) (ac (ae 10) aj))) (ac (aA (g2 zb) (ac (ae 9) (ac (ae 10) aj))) aj))))
    (iC (eO cu (ae 6) (ac (aw bi (ae 12) (c9 (ac (cB 2 gr (ac (ae 11) (ac (ae 4) aj))) (ac (cB 2 mK (ac (aw dq (ae 11) (vC (.int 10007))) (ac (ae 5) aj))) aj)))) aj)))))))))
noncomputable def zV:FS:=(aJ (aS 3 (aw bB (cB 1 bL (ac (ae 0) aj)) (vC (.int 6))))
    (aJ (aS 4 (aw bB (cB 1 bL (ac (ae 0) aj)) (vC (.int 4))))
    (aJ (aS 5 (aw bB (cB 1 bL (ac (ae 0) aj)) (vC (.int 4))))
    (aJ (aS 6 (cc aj))
    (aJ (jM ([7]++([8]++([9]++([10]++((([9]++([10]++[]))++[])++([11]++([12]++[]))))))) pU (aq 7) iY)
    (bf (aA (g1 eZ) (ac (ae 6) aj))))))))
noncomputable def p7:FM:=gQ 3 10 ([3]++([4]++([5]++([6]++(([7]++([8]++([9]++([10]++((([9]++([10]++[]))++[])++([11]++([12]++[])))))))++[]))))) zV
theorem yI:az ["_law_drawn","_law_things","_law_many","_law_shape","_law_odds","_law_worths","_law_found","_law_k","_law_number","_law_one","_law_other","_law_cell","_law_ends"] ["_law_drawn","_law_things","_law_many"] (ar qy):=⟨rfl,rfl,rfl,by decide+kernel,rfl,by decide+kernel,by decide+kernel⟩
theorem Dj(h:fy K mg "_law_ties" qy f fd ["_law_drawn","_law_things","_law_many"])(T:ck mg)(zLnext:Cl P w K mg base "_law_next" kJ ["_law_drawn"] 1 1 bL)(zLchance:Cl P w K mg base "_law_chance" kG ["_law_number","_law_kind"] 3 2 gr)(zLworth:Cl P w K mg base "_law_worth" m6 ["_law_number","_law_kind"] 1 2 mK):aP P w K mg base cM 4 f fd ["_law_drawn","_law_things","_law_many"] (eA K 3 p7):=by
  obtain⟨Of,Og,MT,MV⟩:=zLnext
  obtain⟨O2,O3,Ny,Ow⟩:=zLchance
  obtain⟨O9,O_,NO,OF⟩:=zLworth
  have nd:=yI.nd
  exact h.fn yI rfl rfl (fun cdv A outer s H E hr=>(@ah _ _ _ _ _ _ _ _ (@aH _ _ _ _ _ 3 _ _ nd rfl (Or.inl rfl) (@bF _ _ _ _ _ _ _ (@bD _ _ _ _ _ _ _ _ _ _ _ _ _ _ _ MT MV (hr.mono (by decide)) ((¬0)∘af) (by rfl) (by decide) (by rfl) (by rfl)) ag) (by rfl) (by trivial))
      (@ah _ _ _ _ _ _ _ _ (@aH _ _ _ _ _ 4 _ _ nd rfl (Or.inl rfl) (@bF _ _ _ _ _ _ _ (@bD _ _ _ _ _ _ _ _ _ _ _ _ _ _ _ MT MV (hr.mono (by decide)) ((¬0)∘af) (by rfl) (by decide) (by rfl) (by rfl)) ag) (by rfl) (by trivial))
      (@ah _ _ _ _ _ _ _ _ (@aH _ _ _ _ _ 5 _ _ nd rfl (Or.inl rfl) (@bF _ _ _ _ _ _ _ (@bD _ _ _ _ _ _ _ _ _ _ _ _ _ _ _ MT MV (hr.mono (by decide)) ((¬0)∘af) (by rfl) (by decide) (by rfl) (by rfl)) ag) (by rfl) (by trivial))
      (@ah _ _ _ _ _ _ _ _ (@aH _ _ _ _ _ 6 _ _ nd rfl (Or.inl rfl) (@bO _ _ _ _ _ af) (by rfl) (by trivial))
      (@ah _ _ _ _ _ _ _ _ (@lV _ _ _ _ _ _ _ _ _ _ _ RF rfl (@eM _ _ _ _ _ _ _ rfl T.b_range ((¬2)∘af) (by rfl)) (@aI _ _ _ 7 _ nd rfl (Or.inl rfl) (by trivial))
      (@ah _ _ _ _ _ _ _ _ (@aH _ _ _ _ _ 8 _ _ nd rfl (Or.inl rfl) (@bD _ _ _ _ _ _ _ _ _ _ _ _ _ _ _ MT MV (hr.mono (by decide)) ((¬0)∘af) (by rfl) (by decide) (by rfl) (by rfl)) (by rfl) (by trivial))
      (@ah _ _ _ _ _ _ _ _ (@aH _ _ _ _ _ 9 _ _ nd rfl (Or.inl rfl) (@cD _ _ _ _ _ _ _ rfl (@bO _ _ _ _ _ ((@bF _ _ _ _ _ _ _ (¬8) (¬1))∘(ag∘((@bF _ _ _ _ _ _ _ (¬7) (¬1))∘((@bF _ _ _ _ _ _ _ (¬8) (¬1))∘((@bF _ _ _ _ _ _ _ (¬8) ag)∘((@bF _ _ _ _ _ _ _ (¬8) (¬1))∘af))))))) (¬3) (fun _ _=>rfl)) (by rfl) (by trivial))
      (@ah _ _ _ _ _ _ _ _ (@aH _ _ _ _ _ 10 _ _ nd rfl (Or.inl rfl) (@bF _ _ _ _ _ _ _ (@ce _ _ _ _ _ _ _ rfl (@ce _ _ _ _ _ _ _ rfl (¬9) ag) (@bF _ _ _ _ _ _ _ (@iV _ _ _ _ _ _ _ (¬8) ag) (@yu _ _ _ _ _ _ _ (¬1) ag))) (¬1)) (by rfl) (by trivial))
      (@ah _ _ _ _ _ _ _ _ (@cW _ _ _ _ _ _ _ _ _ _ _ (@aQ _ _ _ _ _ _ _ _ _ (@j7 _ _ _ rfl hr) (¬3) ag (aL _))
      (@av _ _ _ _ _ (@qm _ _ _ _ _ _ _ _ (@bM _ _ _ _ _ _ (ag∘(ag∘af))) (@iW _ _ _ _ _ _ _ _ rfl rfl (@a_ _ _ _ _ _ _ _ _ (@aI _ _ _ 9 _ nd rfl (Or.inl rfl) (by trivial)) (@a_ _ _ _ _ _ _ _ _ (@aI _ _ _ 10 _ nd rfl (Or.inl rfl) (by trivial)) (@er _ _) (by rfl)) (by rfl)) (bA (bA gH)) (by rfl) (by rfl)) (by rfl) (by rfl) (by rfl)))
      (@br _ _))
      (@ah _ _ _ _ _ _ _ _ (@aH _ _ _ _ _ 11 _ _ nd rfl (Or.inl rfl) (@bD _ _ _ _ _ _ _ _ _ _ _ _ _ _ _ MT MV (hr.mono (by decide)) ((¬0)∘af) (by rfl) (by decide) (by rfl) (by rfl)) (by rfl) (by trivial))
      (@ah _ _ _ _ _ _ _ _ (@aH _ _ _ _ _ 12 _ _ nd rfl (Or.inl rfl) (@bM _ _ _ _ _ _ ((@aW _ _ _ _ _ _ _ _ _ (@b_min _ _ rfl) (by rfl) T.b_min ((¬9)∘((¬10)∘af)) (by decide) (by decide) (by rfl) (by rfl))∘((@aW _ _ _ _ _ _ _ _ _ (@b_max _ _ rfl) (by rfl) T.b_max ((¬9)∘((¬10)∘af)) (by decide) (by decide) (by rfl) (by rfl))∘af))) (by rfl) (by trivial))
      (@av _ _ _ _ _ (@mX _ _ _ _ _ (@ku _ _ _ _ _ _ _ _ _ rfl (¬6) ((@ce _ _ _ _ _ _ _ rfl (¬12) (@bM _ _ _ _ _ _ ((@bD _ _ _ _ _ _ _ _ _ _ _ _ _ _ _ Ny Ow (hr.mono (by decide)) ((¬11)∘((¬4)∘af)) (by rfl) (by decide) (by rfl) (by rfl))∘((@bD _ _ _ _ _ _ _ _ _ _ _ _ _ _ _ NO OF (hr.mono (by decide)) ((@iV _ _ _ _ _ _ _ (¬11) ag)∘((¬5)∘af)) (by rfl) (by decide) (by rfl) (by rfl))∘af))))∘af) (by rfl) (by rfl) (by rfl) (by rfl) (by rfl)) (by rfl))))))))) (by intro _;rfl))
      (@av _ _ _ _ _ (@aB _ _ _ _ _ (@aW _ _ _ _ _ _ _ _ _ (@b_tuple _ _ rfl) (by rfl) T.b_tuple ((¬6)∘af) (by decide) (by decide) (by rfl) (by rfl))))))))))
noncomputable def tR:FI:=(ek (ac (ae 3) aj))
noncomputable def pw:FS:=(iC (eO cu (ae 7) (ac (aw dC (cc (ac (vC (.int 20)) (ac (aw bi (vC (.int 1)) (aw bB (cB 1 bL (ac (ae 0) aj)) (vC (.int 3)))) (ac (aw bB (cB 1 bL (ac (ae 0) aj)) (vC (.int 21))) aj)))) (ae 6)) aj)))
noncomputable def EG:FS:=(aJ (aS 3 (aw bB (cB 1 bL (ac (ae 0) aj)) (aw bi (ae 1) (vC (.int 1)))))
    (aJ (aS 4 (aw lm (aw bB (cB 1 bL (ac (ae 0) aj)) (aw bi (ae 2) (vC (.int 1)))) (aA (g1 q_) (ac (aw Co (ae 3) (vC (.int 1))) aj))))
    (aJ (aS 5 (cB 3 p7 (ac (ae 0) (ac (aA (g2 zb) (ac (vC (.int 2)) (ac (ae 3) aj))) (ac (ae 4) aj)))))
    (aJ (aS 6 (aw bB (cB 1 bL (ac (ae 0) aj)) (vC (.int 3))))
    (aJ (aS 7 (cc aj))
    (aJ (jM ([8]++[]) tR (aq 8) pw)
    (aJ (aS 9 (aw dC (cc (ac (vC (.int 40)) (ac (aw bi (vC (.int 1)) (aw bB (cB 1 bL (ac (ae 0) aj)) (aA (g2 zb) (ac (vC (.int 1)) (ac (ae 4) aj))))) (ac (aw bB (cB 1 bL (ac (ae 0) aj)) (vC (.int 41))) aj)))) (aw bB (cB 1 bL (ac (ae 0) aj)) (vC (.int 3)))))
    (bf (c9 (ac (ae 3) (ac (ae 5) (ac (aA (g1 eZ) (ac (ae 7) aj)) (ac (ae 9) aj)))))))))))))
noncomputable def se:FM:=gQ 3 7 ([3]++([4]++([5]++([6]++([7]++(([8]++[])++([9]++[]))))))) EG
theorem BU:az ["_law_drawn","_law_most","_law_ties_here","_law_things","_law_many","_law_rows","_law_way","_law_patience","_law_k","_law_asks"] ["_law_drawn","_law_most","_law_ties_here"] (ar vL):=⟨rfl,rfl,rfl,by decide+kernel,rfl,by decide+kernel,by decide+kernel⟩
theorem GP(h:fy K mg "_law_web" vL f fd ["_law_drawn","_law_most","_law_ties_here"])(T:ck mg)(zLties:Cl P w K mg base "_law_ties" qy ["_law_drawn","_law_things","_law_many"] 4 3 p7)(zLnext:Cl P w K mg base "_law_next" kJ ["_law_drawn"] 1 1 bL):aP P w K mg base cM 5 f fd ["_law_drawn","_law_most","_law_ties_here"] (eA K 3 se):=by
  obtain⟨Pe,Pf,NY,OO⟩:=zLties
  obtain⟨Of,Og,MT,MV⟩:=zLnext
  have nd:=BU.nd
  exact h.fn BU rfl rfl (fun cdv A outer s H E hr=>(@ah _ _ _ _ _ _ _ _ (@aH _ _ _ _ _ 3 _ _ nd rfl (Or.inl rfl) (@bF _ _ _ _ _ _ _ (@bD _ _ _ _ _ _ _ _ _ _ _ _ _ _ _ MT MV (hr.mono (by decide)) ((¬0)∘af) (by rfl) (by decide) (by rfl) (by rfl)) (@ce _ _ _ _ _ _ _ rfl (¬1) ag)) (by rfl) (by trivial))
      (@ah _ _ _ _ _ _ _ _ (@aH _ _ _ _ _ 4 _ _ nd rfl (Or.inl rfl) (@ql _ _ _ _ _ _ _ rfl (@bF _ _ _ _ _ _ _ (@bD _ _ _ _ _ _ _ _ _ _ _ _ _ _ _ MT MV (hr.mono (by decide)) ((¬0)∘af) (by rfl) (by decide) (by rfl) (by rfl)) (@ce _ _ _ _ _ _ _ rfl (¬2) ag)) (@aW _ _ _ _ _ _ _ _ _ (@b_int _ _) (by rfl) T.b_int ((@oJ _ _ _ _ _ _ _ _ _ (@yU _ _) (¬3) ag (aL _))∘af) (by decide) (by decide) (by rfl) (by rfl))) (by rfl) (by trivial))
      (@ah _ _ _ _ _ _ _ _ (@aH _ _ _ _ _ 5 _ _ nd rfl (Or.inl rfl) (@bD _ _ _ _ _ _ _ _ _ _ _ _ _ _ _ NY OO (hr.mono (by decide)) ((¬0)∘((@aW _ _ _ _ _ _ _ _ _ (@b_max _ _ rfl) (by rfl) T.b_max (ag∘((¬3)∘af)) (by decide) (by decide) (by rfl) (by rfl))∘((¬4)∘af))) (by rfl) (by decide) (by rfl) (by rfl)) (by rfl) (by trivial))
      (@ah _ _ _ _ _ _ _ _ (@aH _ _ _ _ _ 6 _ _ nd rfl (Or.inl rfl) (@bF _ _ _ _ _ _ _ (@bD _ _ _ _ _ _ _ _ _ _ _ _ _ _ _ MT MV (hr.mono (by decide)) ((¬0)∘af) (by rfl) (by decide) (by rfl) (by rfl)) ag) (by rfl) (by trivial))
      (@ah _ _ _ _ _ _ _ _ (@aH _ _ _ _ _ 7 _ _ nd rfl (Or.inl rfl) (@bO _ _ _ _ _ af) (by rfl) (by trivial))
      (@ah _ _ _ _ _ _ _ _ (@lV _ _ _ _ _ _ _ _ _ _ _ RF rfl (@eM _ _ _ _ _ _ _ rfl T.b_range ((¬3)∘af) (by rfl)) (@aI _ _ _ 8 _ nd rfl (Or.inl rfl) (by trivial))
      (@av _ _ _ _ _ (@mX _ _ _ _ _ (@ku _ _ _ _ _ _ _ _ _ rfl (¬7) ((@cD _ _ _ _ _ _ _ rfl (@bO _ _ _ _ _ (ag∘((@ce _ _ _ _ _ _ _ rfl ag (@bF _ _ _ _ _ _ _ (@bD _ _ _ _ _ _ _ _ _ _ _ _ _ _ _ MT MV (hr.mono (by decide)) ((¬0)∘af) (by rfl) (by decide) (by rfl) (by rfl)) ag))∘((@bF _ _ _ _ _ _ _ (@bD _ _ _ _ _ _ _ _ _ _ _ _ _ _ _ MT MV (hr.mono (by decide)) ((¬0)∘af) (by rfl) (by decide) (by rfl) (by rfl)) ag)∘af)))) (¬6) (fun _ _=>rfl))∘af) (by rfl) (by rfl) (by rfl) (by rfl) (by rfl)) (by rfl))) (by intro _;rfl))
      (@ah _ _ _ _ _ _ _ _ (@aH _ _ _ _ _ 9 _ _ nd rfl (Or.inl rfl) (@cD _ _ _ _ _ _ _ rfl (@bO _ _ _ _ _ (ag∘((@ce _ _ _ _ _ _ _ rfl ag (@bF _ _ _ _ _ _ _ (@bD _ _ _ _ _ _ _ _ _ _ _ _ _ _ _ MT MV (hr.mono (by decide)) ((¬0)∘af) (by rfl) (by decide) (by rfl) (by rfl)) (@aW _ _ _ _ _ _ _ _ _ (@b_max _ _ rfl) (by rfl) T.b_max (ag∘((¬4)∘af)) (by decide) (by decide) (by rfl) (by rfl))))∘((@bF _ _ _ _ _ _ _ (@bD _ _ _ _ _ _ _ _ _ _ _ _ _ _ _ MT MV (hr.mono (by decide)) ((¬0)∘af) (by rfl) (by decide) (by rfl) (by rfl)) ag)∘af)))) (@bF _ _ _ _ _ _ _ (@bD _ _ _ _ _ _ _ _ _ _ _ _ _ _ _ MT MV (hr.mono (by decide)) ((¬0)∘af) (by rfl) (by decide) (by rfl) (by rfl)) ag) (fun _ _=>rfl)) (by rfl) (by trivial))
      (@av _ _ _ _ _ (@aB _ _ _ _ _ (@bM _ _ _ _ _ _ ((¬3)∘((¬5)∘((@aW _ _ _ _ _ _ _ _ _ (@b_tuple _ _ rfl) (by rfl) T.b_tuple ((¬7)∘af) (by decide) (by decide) (by rfl) (by rfl))∘((¬9)∘af)))))))))))))))
noncomputable def oC:FI:=(ki (ae 1))
noncomputable def f_:FT:=(aE (aw (nD false) (ae 0) (uB (aw dC (aw dC (ae 1) (vC (.int 1))) (ae 2)) bC (bx (vC (.int 2))))))
noncomputable def gh:FE:=(ae 2)
noncomputable def rD:FS:=(bf (aA (g1 dJ) (ac (cf [(2,"_law_thing"),(0,"_law_web_here")] 1 oC (aq 2) f_ gh) aj)))
noncomputable def ie:FM:=gQ 3 0 [] rD
theorem qD:az ["_law_web_here","_law_asked","_law_thing"] ["_law_web_here","_law_asked","_law_thing"] (ar jg):=⟨rfl,rfl,rfl,by decide+kernel,rfl,by decide+kernel,by decide+kernel⟩
theorem xj(h:fy K mg "_law_asks_of" jg f fd ["_law_web_here","_law_asked","_law_thing"])(T:ck mg):aP P w K mg base cM 1 f fd ["_law_web_here","_law_asked","_law_thing"] (eA K 3 ie):=by
  have nd:=qD.nd
  exact h.fn qD rfl rfl (fun cdv A outer s H E hr=>(@av _ _ _ _ _ (@aB _ _ _ _ _ (@aW _ _ _ _ _ _ _ _ _ (@b_len _ _ rfl) (by rfl) T.b_len ((@el _ _ _ _ _ _ _ _ _ _ _ _ _ [(2,"_law_thing"),(0,"_law_web_here")] ["_law_tie"] rfl rfl (@fP _ _ _ _ _ rfl (¬1))
        (fun C s0 H0 fp=>(@aI _ _ _ 2 _ (show Ra (["_law_thing","_law_web_here","_law_tie"]:List Str) by decide+kernel) rfl (Or.inl rfl) (by trivial))) (fun C s0 H0 fp=>(@jL _ _ _ _ (@aQ _ _ _ _ _ _ _ _ _ (@tD _ _ _ rfl hr) (¬0) (@mT _ _ _ _ _ _ _ _ _ _ rfl (@cD _ _ _ _ _ _ _ rfl (@cD _ _ _ _ _ _ _ rfl (¬1) ag (fun _ _=>rfl)) (¬2) (fun _ _=>rfl)) (@df _ _) (@dg _ _ _ _ ag)) (by with_unfolding_all rfl))))
        (fun C s0 H0 fp=>(¬2)) rfl (by rfl) (by intro _;rfl))∘af) (by decide) (by decide) (by rfl) (by rfl)))))
noncomputable def yf:FI:=(ki (uB (aw dC (aw dC (ae 0) (vC (.int 1))) (ae 2)) bC (bx (vC (.int 2)))))
noncomputable def js:FS:=(je (uG (aE (aw (nD false) (ae 5) (ae 4))) (aE (aw Cn (cB 3 ie (ac (ae 0) (ac (ae 3) (ac (ae 5) aj)))) (aw dC (aw dC (ae 0) (vC (.int 2))) (ae 5)))))
    (bf (vC (.bool false)))
    dh)
noncomputable def rE:FS:=(aJ (lp (ae 1) (cn (aF (aq 3) (aF (aq 4) bT))))
    (aJ (je (uG (aE (aw (nD false) (ae 2) (ae 3))) (aE (aw Cn (aA (g1 dJ) (ac (ae 3) aj)) (aw dC (ae 0) (vC (.int 3))))))
    (bf (vC (.bool false)))
    dh)
    (aJ (jM ([5]++([]++[])) yf (aq 5) js)
    (bf (vC (.bool true))))))
noncomputable def kn:FM:=gQ 3 3 (([3]++([4]++[]))++(([]++[])++(([5]++([]++[]))++[]))) rE
theorem BR:az ["_law_web_here","_law_stand","_law_tie","_law_asked","_law_taken","_law_thing"] ["_law_web_here","_law_stand","_law_tie"] (ar sy):=⟨rfl,rfl,rfl,by decide+kernel,rfl,by decide+kernel,by decide+kernel⟩
theorem GN(h:fy K mg "_law_may" sy f fd ["_law_web_here","_law_stand","_law_tie"])(T:ck mg)(zLasks_of:Cl P w K mg base "_law_asks_of" jg ["_law_web_here","_law_asked","_law_thing"] 1 3 ie):aP P w K mg base cM 2 f fd ["_law_web_here","_law_stand","_law_tie"] (eA K 3 kn):=by
  obtain⟨OP,OQ,Nm,Oh⟩:=zLasks_of
  have nd:=BR.nd
  exact h.fn BR rfl rfl (fun cdv A outer s H E hr=>(@ah _ _ _ _ _ _ _ _ (@qm _ _ _ _ _ _ _ _ (¬1) (@iW _ _ _ _ _ _ _ _ rfl rfl (@a_ _ _ _ _ _ _ _ _ (@aI _ _ _ 3 _ nd rfl (Or.inl rfl) (by trivial)) (@a_ _ _ _ _ _ _ _ _ (@aI _ _ _ 4 _ nd rfl (Or.inl rfl) (by trivial)) (@er _ _) (by rfl)) (by rfl)) (bA (bA gH)) (by rfl) (by rfl)) (by rfl) (by rfl) (by rfl))
      (@ah _ _ _ _ _ _ _ _ (@cW _ _ _ _ _ _ _ _ _ _ _ (@rk _ _ _ _ (@sv _ _ _ _ _ _ _ _ (@aQ _ _ _ _ _ _ _ _ _ (@tD _ _ _ rfl hr) (¬2) (¬3) (by with_unfolding_all rfl)) (@nX _ _ _ _ _ (@aQ _ _ _ _ _ _ _ _ _ (@yT _ _) (@aW _ _ _ _ _ _ _ _ _ (@b_len _ _ rfl) (by rfl) T.b_len ((¬3)∘af) (by decide) (by decide) (by rfl) (by rfl)) (@cD _ _ _ _ _ _ _ rfl (¬0) ag (fun _ _=>rfl)) (aL _)))))
      (@av _ _ _ _ _ (@aB _ _ _ _ _ (@lx _ _ _ _ _)))
      (@br _ _))
      (@ah _ _ _ _ _ _ _ _ (@lV _ _ _ _ _ _ _ _ _ _ _ RF rfl (@fP _ _ _ _ _ rfl (@mT _ _ _ _ _ _ _ _ _ _ rfl (@cD _ _ _ _ _ _ _ rfl (@cD _ _ _ _ _ _ _ rfl (¬0) ag (fun _ _=>rfl)) (¬2) (fun _ _=>rfl)) (@df _ _) (@dg _ _ _ _ ag))) (@aI _ _ _ 5 _ nd rfl (Or.inl rfl) (by trivial))
      (@av _ _ _ _ _ (@cW _ _ _ _ _ _ _ _ _ _ _ (@rk _ _ _ _ (@sv _ _ _ _ _ _ _ _ (@aQ _ _ _ _ _ _ _ _ _ (@tD _ _ _ rfl hr) (¬5) (¬4) (by with_unfolding_all rfl)) (@nX _ _ _ _ _ (@aQ _ _ _ _ _ _ _ _ _ (@yT _ _) (@bD _ _ _ _ _ _ _ _ _ _ _ _ _ _ _ Nm Oh (hr.mono (by decide)) ((¬0)∘((¬3)∘((¬5)∘af))) (by rfl) (by decide) (by rfl) (by rfl)) (@cD _ _ _ _ _ _ _ rfl (@cD _ _ _ _ _ _ _ rfl (¬0) ag (fun _ _=>rfl)) (¬5) (fun _ _=>rfl)) (aL _)))))
      (@av _ _ _ _ _ (@aB _ _ _ _ _ (@lx _ _ _ _ _)))
      (@br _ _))) (by intro _;rfl))
      (@av _ _ _ _ _ (@aB _ _ _ _ _ (@lx _ _ _ _ _)))))))
noncomputable def pI:FS:=(aJ (lp (ae 1) (cn (aF (aq 4) (aF (aq 5) bT))))
    (aJ (aS 6 (ae 5))
    (aJ (je (aE (ae 3))
    (aS 6 (aA (g1 eZ) (ac (aA (g1 fF) (ac (aw bi (ae 5) (uB (aw dC (aw dC (ae 0) (vC (.int 1))) (ae 2)) bC (bx (vC (.int 2))))) aj)) aj)))
    dh)
    (bf (c9 (ac (aA (g1 eZ) (ac (aA (g1 fF) (ac (aw bi (ae 4) (c9 (ac (ae 2) aj))) aj)) aj)) (ac (ae 6) aj)))))))
noncomputable def iz:FM:=gQ 4 3 (([4]++([5]++[]))++([6]++(([6]++[])++[]))) pI
theorem sA:az ["_law_web_here","_law_stand","_law_tie","_law_truth","_law_asked","_law_taken","_law_more"] ["_law_web_here","_law_stand","_law_tie","_law_truth"] (ar kB):=⟨rfl,rfl,rfl,by decide+kernel,rfl,by decide+kernel,by decide+kernel⟩
theorem zr(h:fy K mg "_law_behind" kB f fd ["_law_web_here","_law_stand","_law_tie","_law_truth"])(T:ck mg):aP P w K mg base cM 1 f fd ["_law_web_here","_law_stand","_law_tie","_law_truth"] (eA K 4 iz):=by
  have nd:=sA.nd
  exact h.fn sA rfl rfl (fun cdv A outer s H E hr=>(@ah _ _ _ _ _ _ _ _ (@qm _ _ _ _ _ _ _ _ (¬1) (@iW _ _ _ _ _ _ _ _ rfl rfl (@a_ _ _ _ _ _ _ _ _ (@aI _ _ _ 4 _ nd rfl (Or.inl rfl) (by trivial)) (@a_ _ _ _ _ _ _ _ _ (@aI _ _ _ 5 _ nd rfl (Or.inl rfl) (by trivial)) (@er _ _) (by rfl)) (by rfl)) (bA (bA gH)) (by rfl) (by rfl)) (by rfl) (by rfl) (by rfl))
      (@ah _ _ _ _ _ _ _ _ (@aH _ _ _ _ _ 6 _ _ nd rfl (Or.inl rfl) (¬5) (by rfl) (by trivial))
      (@ah _ _ _ _ _ _ _ _ (@cW _ _ _ _ _ _ _ _ _ _ _ (@gL _ _ _ _ (¬3) (by intro _;rfl))
      (@av _ _ _ _ _ (@aH _ _ _ _ _ 6 _ _ nd rfl (Or.inl rfl) (@aW _ _ _ _ _ _ _ _ _ (@b_tuple _ _ rfl) (by rfl) T.b_tuple ((@aW _ _ _ _ _ _ _ _ _ (@b_sorted _ _ rfl) (by rfl) T.b_sorted ((@ce _ _ _ _ _ _ _ rfl (¬5) (@mT _ _ _ _ _ _ _ _ _ _ rfl (@cD _ _ _ _ _ _ _ rfl (@cD _ _ _ _ _ _ _ rfl (¬0) ag (fun _ _=>rfl)) (¬2) (fun _ _=>rfl)) (@df _ _) (@dg _ _ _ _ ag)))∘af) (by decide) (by decide) (by rfl) (by rfl))∘af) (by decide) (by decide) (by rfl) (by rfl)) (by rfl) (by trivial)))
      (@br _ _))
      (@av _ _ _ _ _ (@aB _ _ _ _ _ (@bM _ _ _ _ _ _ ((@aW _ _ _ _ _ _ _ _ _ (@b_tuple _ _ rfl) (by rfl) T.b_tuple ((@aW _ _ _ _ _ _ _ _ _ (@b_sorted _ _ rfl) (by rfl) T.b_sorted ((@ce _ _ _ _ _ _ _ rfl (¬4) (@bM _ _ _ _ _ _ ((¬2)∘af)))∘af) (by decide) (by decide) (by rfl) (by rfl))∘af) (by decide) (by decide) (by rfl) (by rfl))∘((¬6)∘af)))))))))
noncomputable def kg:FI:=(ek (ac (aA (g1 dJ) (ac (aw dC (ae 0) (vC (.int 1))) aj)) aj))
noncomputable def f9:FT:=(aE (cB 3 kn (ac (ae 0) (ac (ae 1) (ac (ae 2) aj)))))
noncomputable def gf:FE:=(ae 2)
noncomputable def rC:FS:=(bf (cf [(0,"_law_web_here"),(1,"_law_stand")] 1 kg (aq 2) f9 gf))
noncomputable def i9:FM:=gQ 2 0 [] rC
theorem qC:az ["_law_web_here","_law_stand"] ["_law_web_here","_law_stand"] (ar jf):=⟨rfl,rfl,rfl,by decide+kernel,rfl,by decide+kernel,by decide+kernel⟩
theorem xi(h:fy K mg "_law_askable" jf f fd ["_law_web_here","_law_stand"])(T:ck mg)(zLmay:Cl P w K mg base "_law_may" sy ["_law_web_here","_law_stand","_law_tie"] 2 3 kn):aP P w K mg base cM 3 f fd ["_law_web_here","_law_stand"] (eA K 2 i9):=by
  obtain⟨Pa,Pb,N5,OG⟩:=zLmay
  have nd:=qC.nd
  exact h.fn qC rfl rfl (fun cdv A outer s H E hr=>(@av _ _ _ _ _ (@aB _ _ _ _ _ (@el _ _ _ _ _ _ _ _ _ _ _ _ _ [(0,"_law_web_here"),(1,"_law_stand")] ["_law_tie"] rfl rfl (@eM _ _ _ _ _ _ _ rfl T.b_range ((@aW _ _ _ _ _ _ _ _ _ (@b_len _ _ rfl) (by rfl) T.b_len ((@cD _ _ _ _ _ _ _ rfl (¬0) ag (fun _ _=>rfl))∘af) (by decide) (by decide) (by rfl) (by rfl))∘af) (by rfl))
        (fun C s0 H0 fp=>(@aI _ _ _ 2 _ (show Ra (["_law_web_here","_law_stand","_law_tie"]:List Str) by decide+kernel) rfl (Or.inl rfl) (by trivial))) (fun C s0 H0 fp=>(@jL _ _ _ _ (@gL _ _ _ _ (@bD _ _ _ _ _ _ _ _ _ _ _ _ _ _ _ N5 OG (hr.mono (by decide)) ((¬0)∘((¬1)∘((¬2)∘af))) (by rfl) (by decide) (by rfl) (by rfl)) (by intro _;rfl))))
        (fun C s0 H0 fp=>(¬2)) rfl (by rfl) (by intro _;rfl)))))
noncomputable def u_:FI:=(ki (ae 1))
noncomputable def uM:FT:=(aE (ae 2))
noncomputable def mi:FE:=(aw dC (aw dC (aw dC (ae 0) (vC (.int 1))) (ae 1)) (vC (.int 3)))
noncomputable def zT:FS:=(bf (aA (g1 (i7 rY)) (ac (cf [(0,"_law_web_here")] 2 u_ (cn (aF (aq 1) (aF (aq 2) bT))) uM mi) aj)))
noncomputable def p6:FM:=gQ 2 0 [] zT
theorem yF:az ["_law_web_here","_law_run"] ["_law_web_here","_law_run"] (ar qu):=⟨rfl,rfl,rfl,by decide+kernel,rfl,by decide+kernel,by decide+kernel⟩
theorem Dg(h:fy K mg "_law_kept" qu f fd ["_law_web_here","_law_run"])(T:ck mg):aP P w K mg base cM 1 f fd ["_law_web_here","_law_run"] (eA K 2 p6):=by
  have nd:=yF.nd
  exact h.fn yF rfl rfl (fun cdv A outer s H E hr=>(@av _ _ _ _ _ (@aB _ _ _ _ _ (@aW _ _ _ _ _ _ _ _ _ (@b_sum _ _ _ rfl hr) (by rfl) T.b_sum ((@el _ _ _ _ _ _ _ _ _ _ _ _ _ [(0,"_law_web_here")] ["_law_tie","_law_truth"] rfl rfl (@fP _ _ _ _ _ rfl (¬1))
        (fun C s0 H0 fp=>(@iW _ _ _ _ _ _ _ _ rfl rfl (@a_ _ _ _ _ _ _ _ _ (@aI _ _ _ 1 _ (show Ra (["_law_web_here","_law_tie","_law_truth"]:List Str) by decide+kernel) rfl (Or.inl rfl) (by trivial)) (@a_ _ _ _ _ _ _ _ _ (@aI _ _ _ 2 _ (show Ra (["_law_web_here","_law_tie","_law_truth"]:List Str) by decide+kernel) rfl (Or.inl rfl) (by trivial)) (@er _ _) (by rfl)) (by rfl)) (bA (bA gH)) (by rfl) (by rfl))) (fun C s0 H0 fp=>(@jL _ _ _ _ (@gL _ _ _ _ (¬2) (by intro _;rfl))))
        (fun C s0 H0 fp=>(@cD _ _ _ _ _ _ _ rfl (@cD _ _ _ _ _ _ _ rfl (@cD _ _ _ _ _ _ _ rfl (¬0) ag (fun _ _=>rfl)) (¬1) (fun _ _=>rfl)) ag (fun _ _=>rfl))) rfl (by rfl) (by intro _;rfl))∘af) (by decide) (by decide) (by rfl) (by rfl)))))
noncomputable def yg:FI:=(ki (ae 0))
noncomputable def yc:FE:=(aA (g1 eY) (ac (ae 0) aj))
noncomputable def EF:FS:=(aJ (je (aE (aw (bH false) (ae 0) (cc aj)))
    (bf (vC (.str ("none":Str))))
    dh)
    (bf (aw oB (vC (.str (" ":Str))) (cf [] 1 yg (aq 0) gS yc))))
noncomputable def sd:FM:=gQ 1 0 (([]++[])++[]) EF
theorem BS:az ["_law_numbers"] ["_law_numbers"] (ar vK):=⟨rfl,rfl,rfl,by decide+kernel,rfl,by decide+kernel,by decide+kernel⟩
theorem GO(h:fy K mg "_law_row" vK f fd ["_law_numbers"])(T:ck mg):aP P w K mg base cM 1 f fd ["_law_numbers"] (eA K 1 sd):=by
  have nd:=BS.nd
  exact h.fn BS rfl rfl (fun cdv A outer s H E hr=>(@ah _ _ _ _ _ _ _ _ (@cW _ _ _ _ _ _ _ _ _ _ _ (@aQ _ _ _ _ _ _ _ _ _ (@j7 _ _ _ rfl hr) (¬0) (@bO _ _ _ _ _ af) (aL _))
      (@av _ _ _ _ _ (@aB _ _ _ _ _ (@am _ _ _ _ _)))
      (@br _ _))
      (@av _ _ _ _ _ (@aB _ _ _ _ _ (@Bp _ _ _ _ _ _ _ _ _ rfl (@el _ _ _ _ _ _ _ _ _ _ _ _ _ [] ["_law_number"] rfl rfl (@fP _ _ _ _ _ rfl (¬0))
        (fun C s0 H0 fp=>(@aI _ _ _ 0 _ (show Ra (["_law_number"]:List Str) by decide+kernel) rfl (Or.inl rfl) (by trivial))) (fun C s0 H0 fp=>(@mY _ _))
        (fun C s0 H0 fp=>(@aW _ _ _ _ _ _ _ _ _ (@b_str _ _) (by rfl) T.b_str ((¬0)∘af) (by decide) (by decide) (by rfl) (by rfl))) rfl (by rfl) (by intro _;rfl)) (by rfl) (by rfl) (by rfl) (by rfl) (by rfl))))))
noncomputable def nJ:FI:=(ki (ae 1))
noncomputable def rF:FS:=(aS 2 (cB 4 iz (ac (ae 0) (ac (ae 2) (ac (ae 3) (ac (ae 4) aj))))))
noncomputable def xW:FS:=(aJ (aS 2 (c9 (ac (c9 aj) (ac (c9 aj) aj))))
    (aJ (jM (([3]++([4]++[]))++[2]) nJ (cn (aF (aq 3) (aF (aq 4) bT))) rF)
    (bf (ae 2))))
noncomputable def jI:FM:=gQ 2 3 ([2]++((([3]++([4]++[]))++[2])++[])) xW
theorem vO:az ["_law_web_here","_law_run","_law_stand","_law_tie","_law_truth"] ["_law_web_here","_law_run"] (ar lh):=⟨rfl,rfl,rfl,by decide+kernel,rfl,by decide+kernel,by decide+kernel⟩
theorem AY(h:fy K mg "_law_stood" lh f fd ["_law_web_here","_law_run"])(T:ck mg)(zLbehind:Cl P w K mg base "_law_behind" kB ["_law_web_here","_law_stand","_law_tie","_law_truth"] 1 4 iz):aP P w K mg base cM 2 f fd ["_law_web_here","_law_run"] (eA K 2 jI):=by
  obtain⟨O4,O5,Nz,Ox⟩:=zLbehind
  have nd:=vO.nd
  exact h.fn vO rfl rfl (fun cdv A outer s H E hr=>(@ah _ _ _ _ _ _ _ _ (@aH _ _ _ _ _ 2 _ _ nd rfl (Or.inl rfl) (@bM _ _ _ _ _ _ ((@bM _ _ _ _ _ _ af)∘((@bM _ _ _ _ _ _ af)∘af))) (by rfl) (by trivial))
      (@ah _ _ _ _ _ _ _ _ (@lV _ _ _ _ _ _ _ _ _ _ _ RF rfl (@fP _ _ _ _ _ rfl (¬1)) (@iW _ _ _ _ _ _ _ _ rfl rfl (@a_ _ _ _ _ _ _ _ _ (@aI _ _ _ 3 _ nd rfl (Or.inl rfl) (by trivial)) (@a_ _ _ _ _ _ _ _ _ (@aI _ _ _ 4 _ nd rfl (Or.inl rfl) (by trivial)) (@er _ _) (by rfl)) (by rfl)) (bA (bA gH)) (by rfl) (by rfl))
      (@av _ _ _ _ _ (@aH _ _ _ _ _ 2 _ _ nd rfl (Or.inl rfl) (@bD _ _ _ _ _ _ _ _ _ _ _ _ _ _ _ Nz Ox (hr.mono (by decide)) ((¬0)∘((¬2)∘((¬3)∘((¬4)∘af)))) (by rfl) (by decide) (by rfl) (by rfl)) (by rfl) (by trivial))) (by intro _;rfl))
      (@av _ _ _ _ _ (@aB _ _ _ _ _ (¬2))))))
noncomputable def mG:FI:=(ki (ae 3))
noncomputable def jv:FT:=(aE (ae 1))
noncomputable def jz:FE:=(ae 0)
noncomputable def di:FS:=(aJ (m7 1 (aF (aq 3) (aF (aq 4) bT)))
    (aJ (je (aE (aw (nD false) (ae 2) (cc (ac (vC (.str ("yes":Str))) (ac (vC (.str ("no":Str))) aj)))))
    (aJ (je (aE (aw wK (ae 4) (vC (.int 0))))
    (bf (vC (.str ("NoAsk":Str))))
    dh)
    (aJ (qz (aw rV (ae 3) (cc (ac (c9 (ac (ae 4) (ac (aw (bH false) (ae 2) (vC (.str ("yes":Str)))) aj))) aj))) (ae 1) (vC (.int 0)))
    (aJ (qz (qV wM (vC (.int 1))) (ae 1) (vC (.int 1)))
    (bf (aw dC (cc (ac (vC (.str ("gone":Str))) (ac (aw ba (vC (.str ("kept ":Str))) (aA (g1 eY) (ac (aw dC (aw dC (aw dC (ae 0) (vC (.int 1))) (ae 4)) (vC (.int 3))) aj))) aj))) (aA (g1 q_) (ac (aw (bH false) (ae 2) (vC (.str ("yes":Str)))) aj)))))))
    dh)
    (aJ (je (aE (aw (bH false) (ae 2) (vC (.str ("back":Str)))))
    (aJ (je (lq (aE (aw wK (ae 4) (vC (.int 0)))) (aE (aw (bH false) (ae 3) (cc aj))))
    (bf (vC (.str ("NoAsk":Str))))
    dh)
    (aJ (qz (uB (ae 3) bC (bx (aw lL (aA (g1 dJ) (ac (ae 3) aj)) (aA (g1 q_) (ac (aw wK (ae 4) (vC (.int 0))) aj))))) (ae 1) (vC (.int 0)))
    (aJ (qz (qV wM (vC (.int 1))) (ae 1) (vC (.int 1)))
    (bf (vC (.str ("back":Str)))))))
    dh)
    (aJ (je (aE (aw (bH false) (ae 2) (vC (.str ("may":Str)))))
    (bf (cB 1 sd (ac (cB 2 i9 (ac (ae 0) (ac (cB 2 jI (ac (ae 0) (ac (ae 3) aj))) aj))) aj)))
    dh)
    (bf (aw ba (aw ba (cB 1 sd (ac (cf [] 2 mG (cn (aF (aq 0) (aF (aq 1) bT))) jv jz) aj)) (vC (.str (" ":Str)))) (aA (g1 eY) (ac (cB 2 p6 (ac (ae 0) (ac (ae 3) aj))) aj))))))))
noncomputable def aZ:FM:=gQ 3 2 (([3]++([4]++[]))++(((([]++[])++([]++([]++[])))++[])++(((([]++[])++([]++([]++[])))++[])++(([]++[])++[])))) di
theorem oN:az ["_law_web_here","_law_state","_law_word","_law_run","_law_waiting"] ["_law_web_here","_law_state","_law_word"] (ar iD):=⟨rfl,rfl,rfl,by decide+kernel,rfl,by decide+kernel,by decide+kernel⟩
theorem vx(h:fy K mg "_law_due_word" iD f fd ["_law_web_here","_law_state","_law_word"])(T:ck mg)(zLrow:Cl P w K mg base "_law_row" vK ["_law_numbers"] 1 1 sd)(zLaskable:Cl P w K mg base "_law_askable" jf ["_law_web_here","_law_stand"] 3 2 i9)(zLkept:Cl P w K mg base "_law_kept" qu ["_law_web_here","_law_run"] 1 2 p6)(zLstood:Cl P w K mg base "_law_stood" lh ["_law_web_here","_law_run"] 2 2 jI):aP P w K mg base cM 4 f fd ["_law_web_here","_law_state","_law_word"] (eA K 3 aZ):=by
  obtain⟨Pp,Pq,Oi,OR⟩:=zLrow
  obtain⟨OS,OT,Nn,Oj⟩:=zLaskable
  obtain⟨Ph,Pi,NZ,OU⟩:=zLkept
  obtain⟨OH,OI,Nt,NV⟩:=zLstood
  have nd:=oN.nd
  exact h.fn oN rfl rfl (fun cdv A outer s H E hr=>(@ah _ _ _ _ _ _ _ _ (Bv (c:=1) rfl rfl (@be _ 1 _ _ (by rfl) (by first | exact Or.inl rfl | exact Or.inr (Or.inl rfl) | exact Or.inr (Or.inr rfl)) (by decide) (by decide)) (@a_ _ _ _ _ _ _ _ _ (@aI _ _ _ 3 _ nd rfl (Or.inl rfl) (by trivial)) (@a_ _ _ _ _ _ _ _ _ (@aI _ _ _ 4 _ nd rfl (Or.inl rfl) (by trivial)) (@er _ _) (by rfl)) (by rfl)) (bA (bA gH)) (by rfl) (by rfl) (by rfl) (by rfl) (by rfl))
      (@ah _ _ _ _ _ _ _ _ (@cW _ _ _ _ _ _ _ _ _ _ _ (@aQ _ _ _ _ _ _ _ _ _ (@tD _ _ _ rfl hr) (¬2) (@bO _ _ _ _ _ ((@am _ _ _ _ _)∘((@am _ _ _ _ _)∘af))) (by with_unfolding_all rfl))
      (@ah _ _ _ _ _ _ _ _ (@cW _ _ _ _ _ _ _ _ _ _ _ (@aQ _ _ _ _ _ _ _ _ _ (@wB _ _) (¬4) ag (aL _))
      (@av _ _ _ _ _ (@aB _ _ _ _ _ (@am _ _ _ _ _)))
      (@br _ _))
      (@ah _ _ _ _ _ _ _ _ (@qo _ _ _ _ _ _ _ _ _ _ (@Hl _ _ _ _ _ _ _ rfl (¬3) (@bO _ _ _ _ _ ((@bM _ _ _ _ _ _ ((¬4)∘((@oJ _ _ _ _ _ _ _ _ _ (@j7 _ _ _ rfl hr) (¬2) (@am _ _ _ _ _) (aL _))∘af)))∘af))) (¬1) ag (by intro _;rfl) (by rfl) (by rfl) (by rfl))
      (@ah _ _ _ _ _ _ _ _ (@qo _ _ _ _ _ _ _ _ _ _ (@yt _ _ _ _ _ ag) (¬1) ag (by intro _;rfl) (by rfl) (by rfl) (by rfl))
      (@av _ _ _ _ _ (@aB _ _ _ _ _ (@cD _ _ _ _ _ _ _ rfl (@bO _ _ _ _ _ ((@am _ _ _ _ _)∘((@fg _ _ _ _ _ _ _ (@am _ _ _ _ _) (@aW _ _ _ _ _ _ _ _ _ (@b_str _ _) (by rfl) T.b_str ((@cD _ _ _ _ _ _ _ rfl (@cD _ _ _ _ _ _ _ rfl (@cD _ _ _ _ _ _ _ rfl (¬0) ag (fun _ _=>rfl)) (¬4) (fun _ _=>rfl)) ag (fun _ _=>rfl))∘af) (by decide) (by decide) (by rfl) (by rfl)))∘af))) (@aW _ _ _ _ _ _ _ _ _ (@b_int _ _) (by rfl) T.b_int ((@oJ _ _ _ _ _ _ _ _ _ (@j7 _ _ _ rfl hr) (¬2) (@am _ _ _ _ _) (aL _))∘af) (by decide) (by decide) (by rfl) (by rfl)) (fun _ _=>rfl)))))))
      (@br _ _))
      (@ah _ _ _ _ _ _ _ _ (@cW _ _ _ _ _ _ _ _ _ _ _ (@aQ _ _ _ _ _ _ _ _ _ (@j7 _ _ _ rfl hr) (¬2) (@am _ _ _ _ _) (aL _))
      (@ah _ _ _ _ _ _ _ _ (@cW _ _ _ _ _ _ _ _ _ _ _ (@rk _ _ _ _ (@um _ _ _ _ _ _ _ _ (@aQ _ _ _ _ _ _ _ _ _ (@wB _ _) (¬4) ag (aL _)) (@pA _ _ _ _ _ (@aQ _ _ _ _ _ _ _ _ _ (@j7 _ _ _ rfl hr) (¬3) (@bO _ _ _ _ _ af) (aL _)))))
      (@av _ _ _ _ _ (@aB _ _ _ _ _ (@am _ _ _ _ _)))
      (@br _ _))
      (@ah _ _ _ _ _ _ _ _ (@qo _ _ _ _ _ _ _ _ _ _ (@mT _ _ _ _ _ _ _ _ _ _ rfl (¬3) (@df _ _) (@dg _ _ _ _ (@yu _ _ _ _ _ _ _ (@aW _ _ _ _ _ _ _ _ _ (@b_len _ _ rfl) (by rfl) T.b_len ((¬3)∘af) (by decide) (by decide) (by rfl) (by rfl)) (@aW _ _ _ _ _ _ _ _ _ (@b_int _ _) (by rfl) T.b_int ((@oJ _ _ _ _ _ _ _ _ _ (@wB _ _) (¬4) ag (aL _))∘af) (by decide) (by decide) (by rfl) (by rfl))))) (¬1) ag (by intro _;rfl) (by rfl) (by rfl) (by rfl))
      (@ah _ _ _ _ _ _ _ _ (@qo _ _ _ _ _ _ _ _ _ _ (@yt _ _ _ _ _ ag) (¬1) ag (by intro _;rfl) (by rfl) (by rfl) (by rfl))
      (@av _ _ _ _ _ (@aB _ _ _ _ _ (@am _ _ _ _ _))))))
      (@br _ _))
      (@ah _ _ _ _ _ _ _ _ (@cW _ _ _ _ _ _ _ _ _ _ _ (@aQ _ _ _ _ _ _ _ _ _ (@j7 _ _ _ rfl hr) (¬2) (@am _ _ _ _ _) (aL _))
      (@av _ _ _ _ _ (@aB _ _ _ _ _ (@bD _ _ _ _ _ _ _ _ _ _ _ _ _ _ _ Oi OR (hr.mono (by decide)) ((@bD _ _ _ _ _ _ _ _ _ _ _ _ _ _ _ Nn Oj (hr.mono (by decide)) ((¬0)∘((@bD _ _ _ _ _ _ _ _ _ _ _ _ _ _ _ Nt NV (hr.mono (by decide)) ((¬0)∘((¬3)∘af)) (by rfl) (by decide) (by rfl) (by rfl))∘af)) (by rfl) (by decide) (by rfl) (by rfl))∘af) (by rfl) (by decide) (by rfl) (by rfl))))
      (@br _ _))
      (@av _ _ _ _ _ (@aB _ _ _ _ _ (@fg _ _ _ _ _ _ _ (@fg _ _ _ _ _ _ _ (@bD _ _ _ _ _ _ _ _ _ _ _ _ _ _ _ Oi OR (hr.mono (by decide)) ((@el _ _ _ _ _ _ _ _ _ _ _ _ _ [] ["_law_tie","_law_truth"] rfl rfl (@fP _ _ _ _ _ rfl (¬3))
        (fun C s0 H0 fp=>(@iW _ _ _ _ _ _ _ _ rfl rfl (@a_ _ _ _ _ _ _ _ _ (@aI _ _ _ 0 _ (show Ra (["_law_tie","_law_truth"]:List Str) by decide+kernel) rfl (Or.inl rfl) (by trivial)) (@a_ _ _ _ _ _ _ _ _ (@aI _ _ _ 1 _ (show Ra (["_law_tie","_law_truth"]:List Str) by decide+kernel) rfl (Or.inl rfl) (by trivial)) (@er _ _) (by rfl)) (by rfl)) (bA (bA gH)) (by rfl) (by rfl))) (fun C s0 H0 fp=>(@jL _ _ _ _ (@gL _ _ _ _ (¬1) (by intro _;rfl))))
        (fun C s0 H0 fp=>(¬0)) rfl (by rfl) (by intro _;rfl))∘af) (by rfl) (by decide) (by rfl) (by rfl)) (@am _ _ _ _ _)) (@aW _ _ _ _ _ _ _ _ _ (@b_str _ _) (by rfl) T.b_str ((@bD _ _ _ _ _ _ _ _ _ _ _ _ _ _ _ NZ OU (hr.mono (by decide)) ((¬0)∘((¬3)∘af)) (by rfl) (by decide) (by rfl) (by rfl))∘af) (by decide) (by decide) (by rfl) (by rfl))))))))))
noncomputable def kS:FS:=(aJ (m7 1 (aF (aq 3) (aF (aq 4) bT)))
    (aJ (je (uG (aE (aw Cn (ae 4) (vC (.int 0)))) (kP (aE (cB 3 kn (ac (ae 0) (ac (cB 2 jI (ac (ae 0) (ac (ae 3) aj))) (ac (ae 2) aj)))))))
    (bf (vC (.str ("NoAsk":Str))))
    dh)
    (aJ (qz (ae 2) (ae 1) (vC (.int 1)))
    (bf (vC (.str ("asked":Str)))))))
noncomputable def eL:FM:=gQ 3 2 (([3]++([4]++[]))++(([]++[])++([]++[]))) kS
theorem qE:az ["_law_web_here","_law_state","_law_tie","_law_run","_law_waiting"] ["_law_web_here","_law_state","_law_tie"] (ar jh):=⟨rfl,rfl,rfl,by decide+kernel,rfl,by decide+kernel,by decide+kernel⟩
theorem xk(h:fy K mg "_law_due_ask" jh f fd ["_law_web_here","_law_state","_law_tie"])(T:ck mg)(zLmay:Cl P w K mg base "_law_may" sy ["_law_web_here","_law_stand","_law_tie"] 2 3 kn)(zLstood:Cl P w K mg base "_law_stood" lh ["_law_web_here","_law_run"] 2 2 jI):aP P w K mg base cM 3 f fd ["_law_web_here","_law_state","_law_tie"] (eA K 3 eL):=by
  obtain⟨Pa,Pb,N5,OG⟩:=zLmay
  obtain⟨OH,OI,Nt,NV⟩:=zLstood
  have nd:=qE.nd
  exact h.fn qE rfl rfl (fun cdv A outer s H E hr=>(@ah _ _ _ _ _ _ _ _ (Bv (c:=1) rfl rfl (@be _ 1 _ _ (by rfl) (by first | exact Or.inl rfl | exact Or.inr (Or.inl rfl) | exact Or.inr (Or.inr rfl)) (by decide) (by decide)) (@a_ _ _ _ _ _ _ _ _ (@aI _ _ _ 3 _ nd rfl (Or.inl rfl) (by trivial)) (@a_ _ _ _ _ _ _ _ _ (@aI _ _ _ 4 _ nd rfl (Or.inl rfl) (by trivial)) (@er _ _) (by rfl)) (by rfl)) (bA (bA gH)) (by rfl) (by rfl) (by rfl) (by rfl) (by rfl))
      (@ah _ _ _ _ _ _ _ _ (@cW _ _ _ _ _ _ _ _ _ _ _ (@rk _ _ _ _ (@sv _ _ _ _ _ _ _ _ (@aQ _ _ _ _ _ _ _ _ _ (@yT _ _) (¬4) ag (aL _)) (@nX _ _ _ _ _ (@ul _ _ _ _ _ (@gL _ _ _ _ (@bD _ _ _ _ _ _ _ _ _ _ _ _ _ _ _ N5 OG (hr.mono (by decide)) ((¬0)∘((@bD _ _ _ _ _ _ _ _ _ _ _ _ _ _ _ Nt NV (hr.mono (by decide)) ((¬0)∘((¬3)∘af)) (by rfl) (by decide) (by rfl) (by rfl))∘((¬2)∘af))) (by rfl) (by decide) (by rfl) (by rfl)) (by intro _;rfl))))))
      (@av _ _ _ _ _ (@aB _ _ _ _ _ (@am _ _ _ _ _)))
      (@br _ _))
      (@ah _ _ _ _ _ _ _ _ (@qo _ _ _ _ _ _ _ _ _ _ (¬2) (¬1) ag (by intro _;rfl) (by rfl) (by rfl) (by rfl))
      (@av _ _ _ _ _ (@aB _ _ _ _ _ (@am _ _ _ _ _)))))))
noncomputable def s_:FS:=(aJ (aS 2 (cB 1 bL (ac (ae 0) aj)))
    (aJ (aS 3 (aw dC (cc (ac (vC (.str ("ask":Str))) (ac (vC (.str ("ask":Str))) (ac (vC (.str ("ask":Str))) (ac (vC (.str ("yes":Str))) (ac (vC (.str ("yes":Str))) (ac (vC (.str ("no":Str))) (ac (vC (.str ("no":Str))) (ac (vC (.str ("may":Str))) (ac (vC (.str ("kept":Str))) (ac (vC (.str ("back":Str))) (ac (vC (.str ("ask":Str))) (ac (vC (.str ("yes":Str))) aj))))))))))))) (aw bB (ae 2) (vC (.int 12)))))
    (aJ (je (lq (aE (aw (bH false) (ae 3) (vC (.str ("ask":Str))))) (aE (aw Co (aA (g1 dJ) (ac (aw dC (ae 1) (vC (.int 1))) aj)) (vC (.int 0)))))
    (bf (aw ba (vC (.str ("ask ":Str))) (aA (g1 eY) (ac (aw bB (aw dq (ae 2) (vC (.int 12))) (aA (g1 dJ) (ac (aw dC (ae 1) (vC (.int 1))) aj))) aj))))
    dh)
    (aJ (je (aE (aw (bH false) (ae 3) (vC (.str ("ask":Str)))))
    (bf (vC (.str ("may":Str))))
    dh)
    (bf (ae 3))))))
noncomputable def fH:FM:=gQ 2 2 ([2]++([3]++(([]++[])++(([]++[])++[])))) s_
theorem yE:az ["_law_drawn","_law_web_here","_law_number","_law_word"] ["_law_drawn","_law_web_here"] (ar nZ):=⟨rfl,rfl,rfl,by decide+kernel,rfl,by decide+kernel,by decide+kernel⟩
theorem Df(h:fy K mg "_law_deed" nZ f fd ["_law_drawn","_law_web_here"])(T:ck mg)(zLnext:Cl P w K mg base "_law_next" kJ ["_law_drawn"] 1 1 bL):aP P w K mg base cM 2 f fd ["_law_drawn","_law_web_here"] (eA K 2 fH):=by
  obtain⟨Of,Og,MT,MV⟩:=zLnext
  have nd:=yE.nd
  exact h.fn yE rfl rfl (fun cdv A outer s H E hr=>(@ah _ _ _ _ _ _ _ _ (@aH _ _ _ _ _ 2 _ _ nd rfl (Or.inl rfl) (@bD _ _ _ _ _ _ _ _ _ _ _ _ _ _ _ MT MV (hr.mono (by decide)) ((¬0)∘af) (by rfl) (by decide) (by rfl) (by rfl)) (by rfl) (by trivial))
      (@ah _ _ _ _ _ _ _ _ (@aH _ _ _ _ _ 3 _ _ nd rfl (Or.inl rfl) (@cD _ _ _ _ _ _ _ rfl (@bO _ _ _ _ _ ((@am _ _ _ _ _)∘((@am _ _ _ _ _)∘((@am _ _ _ _ _)∘((@am _ _ _ _ _)∘((@am _ _ _ _ _)∘((@am _ _ _ _ _)∘((@am _ _ _ _ _)∘((@am _ _ _ _ _)∘((@am _ _ _ _ _)∘((@am _ _ _ _ _)∘((@am _ _ _ _ _)∘((@am _ _ _ _ _)∘af))))))))))))) (@bF _ _ _ _ _ _ _ (¬2) ag) (fun _ _=>rfl)) (by rfl) (by trivial))
      (@ah _ _ _ _ _ _ _ _ (@cW _ _ _ _ _ _ _ _ _ _ _ (@rk _ _ _ _ (@um _ _ _ _ _ _ _ _ (@aQ _ _ _ _ _ _ _ _ _ (@j7 _ _ _ rfl hr) (¬3) (@am _ _ _ _ _) (aL _)) (@pA _ _ _ _ _ (@aQ _ _ _ _ _ _ _ _ _ (@yU _ _) (@aW _ _ _ _ _ _ _ _ _ (@b_len _ _ rfl) (by rfl) T.b_len ((@cD _ _ _ _ _ _ _ rfl (¬1) ag (fun _ _=>rfl))∘af) (by decide) (by decide) (by rfl) (by rfl)) ag (aL _)))))
      (@av _ _ _ _ _ (@aB _ _ _ _ _ (@fg _ _ _ _ _ _ _ (@am _ _ _ _ _) (@aW _ _ _ _ _ _ _ _ _ (@b_str _ _) (by rfl) T.b_str ((@bF _ _ _ _ _ _ _ (@iV _ _ _ _ _ _ _ (¬2) ag) (@aW _ _ _ _ _ _ _ _ _ (@b_len _ _ rfl) (by rfl) T.b_len ((@cD _ _ _ _ _ _ _ rfl (¬1) ag (fun _ _=>rfl))∘af) (by decide) (by decide) (by rfl) (by rfl)))∘af) (by decide) (by decide) (by rfl) (by rfl)))))
      (@br _ _))
      (@ah _ _ _ _ _ _ _ _ (@cW _ _ _ _ _ _ _ _ _ _ _ (@aQ _ _ _ _ _ _ _ _ _ (@j7 _ _ _ rfl hr) (¬3) (@am _ _ _ _ _) (aL _))
      (@av _ _ _ _ _ (@aB _ _ _ _ _ (@am _ _ _ _ _)))
      (@br _ _))
      (@av _ _ _ _ _ (@aB _ _ _ _ _ (¬3))))))))
noncomputable def zS:FS:=(aJ (je (aE (aw (bH false) (gN (ae 2) bC (bx (vC (.int 4)))) (vC (.str ("ask ":Str)))))
    (bf (cB 3 eL (ac (ae 0) (ac (ae 1) (ac (aA (g1 iy) (ac (gN (ae 2) (bx (vC (.int 4))) bC) aj)) aj)))))
    dh)
    (bf (cB 3 aZ (ac (ae 0) (ac (ae 1) (ac (ae 2) aj))))))
noncomputable def jT:FM:=gQ 3 0 (([]++[])++[]) zS
theorem BO:az ["_law_web_here","_law_state","_law_line"] ["_law_web_here","_law_state","_law_line"] (ar vH):=⟨rfl,rfl,rfl,by decide+kernel,rfl,by decide+kernel,by decide+kernel⟩
theorem GK(h:fy K mg "_law_due" vH f fd ["_law_web_here","_law_state","_law_line"])(T:ck mg)(zLdue_word:Cl P w K mg base "_law_due_word" iD ["_law_web_here","_law_state","_law_word"] 4 3 aZ)(zLdue_ask:Cl P w K mg base "_law_due_ask" jh ["_law_web_here","_law_state","_law_tie"] 3 3 eL):aP P w K mg base cM 5 f fd ["_law_web_here","_law_state","_law_line"] (eA K 3 jT):=by
  obtain⟨OJ,OK,Nh,N6⟩:=zLdue_word
  obtain⟨OV,OW,Np,Ol⟩:=zLdue_ask
  have nd:=BO.nd
  exact h.fn BO rfl rfl (fun cdv A outer s H E hr=>(@ah _ _ _ _ _ _ _ _ (@cW _ _ _ _ _ _ _ _ _ _ _ (@aQ _ _ _ _ _ _ _ _ _ (@j7 _ _ _ rfl hr) (@gy _ _ _ _ _ _ _ _ _ _ (¬2) (@df _ _) (@dg _ _ _ _ ag)) (@am _ _ _ _ _) (aL _))
      (@av _ _ _ _ _ (@aB _ _ _ _ _ (@bD _ _ _ _ _ _ _ _ _ _ _ _ _ _ _ Np Ol (hr.mono (by decide)) ((¬0)∘((¬1)∘((@aW _ _ _ _ _ _ _ _ _ (@xY _ _) (by rfl) T.b_int ((@gy _ _ _ _ _ _ _ _ _ _ (¬2) (@dg _ _ _ _ ag) (@df _ _))∘af) (by decide) (by decide) (by rfl) (by rfl))∘af))) (by rfl) (by decide) (by rfl) (by rfl))))
      (@br _ _))
      (@av _ _ _ _ _ (@aB _ _ _ _ _ (@bD _ _ _ _ _ _ _ _ _ _ _ _ _ _ _ Nh N6 (hr.mono (by decide)) ((¬0)∘((¬1)∘((¬2)∘af))) (by rfl) (by decide) (by rfl) (by rfl))))))
noncomputable def zU:FS:=(aJ (aS 1 (vC (.str (" !#$&'()*+,-./0123456789:;<=>?@ABCDEFGHIJKLMNOPQRSTUVWXYZ[]^_":Str))))
    (aJ (aS 1 (aw ba (ae 1) (vC (.str ("abcdefghijklmnopqrstuvwxyz{|}~":Str)))))
    (bf (aw za (ae 1) (aw bB (ae 0) (aA (g1 dW) (ac (ae 1) aj)))))))
noncomputable def lM:FM:=gQ 1 1 ([1]++([1]++[])) zU
theorem yH:az ["_law_number","_law_signs"] ["_law_number"] (ar qx):=⟨rfl,rfl,rfl,by decide+kernel,rfl,by decide+kernel,by decide+kernel⟩
theorem Di(h:fy K mg "_law_sign" qx f fd ["_law_number"])(T:ck mg):aP P w K mg base cM 1 f fd ["_law_number"] (eA K 1 lM):=by
  have nd:=yH.nd
  exact h.fn yH rfl rfl (fun cdv A outer s H E hr=>(@ah _ _ _ _ _ _ _ _ (@aH _ _ _ _ _ 1 _ _ nd rfl (Or.inl rfl) (@am _ _ _ _ _) (by rfl) (by trivial))
      (@ah _ _ _ _ _ _ _ _ (@aH _ _ _ _ _ 1 _ _ nd rfl (Or.inl rfl) (@fg _ _ _ _ _ _ _ (¬1) (@am _ _ _ _ _)) (by rfl) (by trivial))
      (@av _ _ _ _ _ (@aB _ _ _ _ _ (@JA _ _ _ _ _ _ _ (¬1) (@bF _ _ _ _ _ _ _ (¬0) (@aW _ _ _ _ _ _ _ _ _ (@tf _ _) (by rfl) T.b_len ((¬1)∘af) (by decide) (by decide) (by rfl) (by rfl))) (fun _ _=>rfl)))))))
noncomputable def ir:FS:=(aJ (aS 2 (cB 1 bL (ac (ae 0) aj)))
    (aJ (aS 3 (cc (ac (vC (.str ("":Str))) (ac (vC (.str (" ":Str))) (ac (vC (.str ("ask":Str))) (ac (vC (.str ("ask ":Str))) (ac (vC (.str ("ask  0":Str))) (ac (vC (.str (" ask 0":Str))) (ac (vC (.str ("ask 0 ":Str))) (ac (vC (.str ("ask -1":Str))) (ac (vC (.str ("ask 00":Str))) (ac (vC (.str ("ask 01":Str))) (ac (vC (.str ("ask +1":Str))) (ac (vC (.str ("ask 0 1":Str))) aj))))))))))))))
    (aJ (aS 3 (aw bi (ae 3) (cc (ac (vC (.str ("Ask 0":Str))) (ac (vC (.str ("ASK 0":Str))) (ac (vC (.str ("yes ":Str))) (ac (vC (.str (" yes":Str))) (ac (vC (.str ("Yes":Str))) (ac (vC (.str ("yes no":Str))) (ac (vC (.str ("no 0":Str))) (ac (vC (.str ("may 0":Str))) (ac (vC (.str ("best 1":Str))) (ac (vC (.str ("bound bound":Str))) (ac (vC (.str ("kep":Str))) aj))))))))))))))
    (aJ (aS 3 (aw bi (ae 3) (cc (ac (vC (.str ("kept kept":Str))) (ac (vC (.str ("backs":Str))) (ac (vC (.str ("back 1":Str))) (ac (vC (.str ("none":Str))) (ac (vC (.str ("stop":Str))) (ac (vC (.str ("NoWord":Str))) (ac (vC (.str ("asked":Str))) (ac (vC (.str ("ask x":Str))) (ac (vC (.str ("ask 1.0":Str))) (ac (vC (.str ("ask 1e1":Str))) aj)))))))))))))
    (aJ (aS 3 (aw bi (ae 3) (cc (ac (aw ba (vC (.str ("ask ":Str))) (aA (g1 eY) (ac (aA (g1 dJ) (ac (aw dC (ae 1) (vC (.int 1))) aj)) aj))) (ac (vC (.str ("ask 16":Str))) (ac (vC (.str ("ask 99":Str))) (ac (vC (.str ("ask 100":Str))) (ac (aw ba (vC (.str ("ask ":Str))) (aw i6 (vC (.str ("1":Str))) (vC (.int 1500)))) (ac (aw ba (vC (.str ("ask ":Str))) (aw i6 (vC (.str ("0":Str))) (vC (.int 1500)))) aj)))))))))
    (aJ (aS 4 (cB 2 fH (ac (ae 0) (ac (ae 1) aj))))
    (aJ (aS 5 (aw bB (aw dq (ae 2) (vC (.int 64))) (aw bi (aA (g1 dW) (ac (ae 4) aj)) (vC (.int 1)))))
    (aJ (aS 6 (cB 1 lM (ac (aw dq (ae 2) (vC (.int 1009))) aj)))
    (aJ (aS 7 (cc (ac (aw ba (aw ba (gN (ae 4) bC (bx (ae 5))) (ae 6)) (gN (ae 4) (bx (ae 5)) bC)) (ac (aw ba (gN (ae 4) bC (bx (ae 5))) (gN (ae 4) (bx (aw bi (ae 5) (vC (.int 1)))) bC)) (ac (aw ba (aw ba (gN (ae 4) bC (bx (ae 5))) (ae 6)) (gN (ae 4) (bx (aw bi (ae 5) (vC (.int 1)))) bC)) aj)))))
    (bf (aw dC (aw bi (ae 3) (aw lm (ae 7) (vC (.int 8)))) (aw bB (ae 2) (aw bi (aA (g1 dJ) (ac (ae 3) aj)) (vC (.int 24)))))))))))))))
noncomputable def iA:FM:=gQ 2 6 ([2]++([3]++([3]++([3]++([3]++([4]++([5]++([6]++([7]++[]))))))))) ir
theorem oO:az ["_law_drawn","_law_web_here","_law_number","_law_odd","_law_line","_law_at","_law_sign_here","_law_some"] ["_law_drawn","_law_web_here"] (ar iE):=⟨rfl,rfl,rfl,by decide+kernel,rfl,by decide+kernel,by decide+kernel⟩
theorem vy(h:fy K mg "_law_odd_line" iE f fd ["_law_drawn","_law_web_here"])(T:ck mg)(zLnext:Cl P w K mg base "_law_next" kJ ["_law_drawn"] 1 1 bL)(zLdeed:Cl P w K mg base "_law_deed" nZ ["_law_drawn","_law_web_here"] 2 2 fH)(zLsign:Cl P w K mg base "_law_sign" qx ["_law_number"] 1 1 lM):aP P w K mg base cM 3 f fd ["_law_drawn","_law_web_here"] (eA K 2 iA):=by
  obtain⟨Of,Og,MT,MV⟩:=zLnext
  obtain⟨Om,On,NG,NK⟩:=zLdeed
  obtain⟨Pj,Pk,N1,OX⟩:=zLsign
  have nd:=oO.nd
  exact h.fn oO rfl rfl (fun cdv A outer s H E hr=>(@ah _ _ _ _ _ _ _ _ (@aH _ _ _ _ _ 2 _ _ nd rfl (Or.inl rfl) (@bD _ _ _ _ _ _ _ _ _ _ _ _ _ _ _ MT MV (hr.mono (by decide)) ((¬0)∘af) (by rfl) (by decide) (by rfl) (by rfl)) (by rfl) (by trivial))
      (@ah _ _ _ _ _ _ _ _ (@aH _ _ _ _ _ 3 _ _ nd rfl (Or.inl rfl) (@bO _ _ _ _ _ ((@am _ _ _ _ _)∘((@am _ _ _ _ _)∘((@am _ _ _ _ _)∘((@am _ _ _ _ _)∘((@am _ _ _ _ _)∘((@am _ _ _ _ _)∘((@am _ _ _ _ _)∘((@am _ _ _ _ _)∘((@am _ _ _ _ _)∘((@am _ _ _ _ _)∘((@am _ _ _ _ _)∘((@am _ _ _ _ _)∘af))))))))))))) (by rfl) (by trivial))
      (@ah _ _ _ _ _ _ _ _ (@aH _ _ _ _ _ 3 _ _ nd rfl (Or.inl rfl) (@ce _ _ _ _ _ _ _ rfl (¬3) (@bO _ _ _ _ _ ((@am _ _ _ _ _)∘((@am _ _ _ _ _)∘((@am _ _ _ _ _)∘((@am _ _ _ _ _)∘((@am _ _ _ _ _)∘((@am _ _ _ _ _)∘((@am _ _ _ _ _)∘((@am _ _ _ _ _)∘((@am _ _ _ _ _)∘((@am _ _ _ _ _)∘((@am _ _ _ _ _)∘af))))))))))))) (by rfl) (by trivial))
      (@ah _ _ _ _ _ _ _ _ (@aH _ _ _ _ _ 3 _ _ nd rfl (Or.inl rfl) (@ce _ _ _ _ _ _ _ rfl (¬3) (@bO _ _ _ _ _ ((@am _ _ _ _ _)∘((@am _ _ _ _ _)∘((@am _ _ _ _ _)∘((@am _ _ _ _ _)∘((@am _ _ _ _ _)∘((@am _ _ _ _ _)∘((@am _ _ _ _ _)∘((@am _ _ _ _ _)∘((@am _ _ _ _ _)∘((@am _ _ _ _ _)∘af)))))))))))) (by rfl) (by trivial))
      (@ah _ _ _ _ _ _ _ _ (@aH _ _ _ _ _ 3 _ _ nd rfl (Or.inl rfl) (@ce _ _ _ _ _ _ _ rfl (¬3) (@bO _ _ _ _ _ ((@fg _ _ _ _ _ _ _ (@am _ _ _ _ _) (@aW _ _ _ _ _ _ _ _ _ (@b_str _ _) (by rfl) T.b_str ((@aW _ _ _ _ _ _ _ _ _ (@b_len _ _ rfl) (by rfl) T.b_len ((@cD _ _ _ _ _ _ _ rfl (¬1) ag (fun _ _=>rfl))∘af) (by decide) (by decide) (by rfl) (by rfl))∘af) (by decide) (by decide) (by rfl) (by rfl)))∘((@am _ _ _ _ _)∘((@am _ _ _ _ _)∘((@am _ _ _ _ _)∘((@fg _ _ _ _ _ _ _ (@am _ _ _ _ _) (@Bq _ _ _ _ _ _ _ (@am _ _ _ _ _) ag))∘((@fg _ _ _ _ _ _ _ (@am _ _ _ _ _) (@Bq _ _ _ _ _ _ _ (@am _ _ _ _ _) ag))∘af)))))))) (by rfl) (by trivial))
      (@ah _ _ _ _ _ _ _ _ (@aH _ _ _ _ _ 4 _ _ nd rfl (Or.inl rfl) (@bD _ _ _ _ _ _ _ _ _ _ _ _ _ _ _ NG NK (hr.mono (by decide)) ((¬0)∘((¬1)∘af)) (by rfl) (by decide) (by rfl) (by rfl)) (by rfl) (by trivial))
      (@ah _ _ _ _ _ _ _ _ (@aH _ _ _ _ _ 5 _ _ nd rfl (Or.inl rfl) (@bF _ _ _ _ _ _ _ (@iV _ _ _ _ _ _ _ (¬2) ag) (@ce _ _ _ _ _ _ _ rfl (@aW _ _ _ _ _ _ _ _ _ (@tf _ _) (by rfl) T.b_len ((¬4)∘af) (by decide) (by decide) (by rfl) (by rfl)) ag)) (by rfl) (by trivial))
      (@ah _ _ _ _ _ _ _ _ (@aH _ _ _ _ _ 6 _ _ nd rfl (Or.inl rfl) (@bD _ _ _ _ _ _ _ _ _ _ _ _ _ _ _ N1 OX (hr.mono (by decide)) ((@iV _ _ _ _ _ _ _ (¬2) ag)∘af) (by rfl) (by decide) (by rfl) (by rfl)) (by rfl) (by trivial))
      (@ah _ _ _ _ _ _ _ _ (@aH _ _ _ _ _ 7 _ _ nd rfl (Or.inl rfl) (@bO _ _ _ _ _ ((@fg _ _ _ _ _ _ _ (@fg _ _ _ _ _ _ _ (@gy _ _ _ _ _ _ _ _ _ _ (¬4) (@df _ _) (@dg _ _ _ _ (¬5))) (¬6)) (@gy _ _ _ _ _ _ _ _ _ _ (¬4) (@dg _ _ _ _ (¬5)) (@df _ _)))∘((@fg _ _ _ _ _ _ _ (@gy _ _ _ _ _ _ _ _ _ _ (¬4) (@df _ _) (@dg _ _ _ _ (¬5))) (@gy _ _ _ _ _ _ _ _ _ _ (¬4) (@dg _ _ _ _ (@ce _ _ _ _ _ _ _ rfl (¬5) ag)) (@df _ _)))∘((@fg _ _ _ _ _ _ _ (@fg _ _ _ _ _ _ _ (@gy _ _ _ _ _ _ _ _ _ _ (¬4) (@df _ _) (@dg _ _ _ _ (¬5))) (¬6)) (@gy _ _ _ _ _ _ _ _ _ _ (¬4) (@dg _ _ _ _ (@ce _ _ _ _ _ _ _ rfl (¬5) ag)) (@df _ _)))∘af)))) (by rfl) (by trivial))
      (@av _ _ _ _ _ (@aB _ _ _ _ _ (@cD _ _ _ _ _ _ _ rfl (@ce _ _ _ _ _ _ _ rfl (¬3) (@ql _ _ _ _ _ _ _ rfl (¬7) ag)) (@bF _ _ _ _ _ _ _ (¬2) (@ce _ _ _ _ _ _ _ rfl (@aW _ _ _ _ _ _ _ _ _ (@b_len _ _ rfl) (by rfl) T.b_len ((¬3)∘af) (by decide) (by decide) (by rfl) (by rfl)) ag)) (fun _ _=>rfl))))))))))))))
noncomputable def kh:FI:=(ek (ac (aA (g1 dJ) (ac (aw dC (ae 0) (vC (.int 1))) aj)) aj))
noncomputable def gj:FE:=(aw ba (vC (.str ("ask ":Str))) (aA (g1 eY) (ac (ae 0) aj)))
noncomputable def nG:FS:=(aJ (je (aE (aw (nD false) (ae 1) (cc (ac (vC (.str ("yes":Str))) (ac (vC (.str ("no":Str))) (ac (vC (.str ("may":Str))) (ac (vC (.str ("best":Str))) (ac (vC (.str ("bound":Str))) (ac (vC (.str ("kept":Str))) (ac (vC (.str ("back":Str))) aj))))))))))
    (bf (vC (.bool true)))
    dh)
    (bf (aw (nD false) (ae 1) (cf [] 1 kh (aq 0) gS gj))))
noncomputable def fJ:FM:=gQ 2 0 (([]++[])++[]) nG
theorem qF:az ["_law_web_here","_law_line"] ["_law_web_here","_law_line"] (ar ji):=⟨rfl,rfl,rfl,by decide+kernel,rfl,by decide+kernel,by decide+kernel⟩
theorem xl(h:fy K mg "_law_is_line" ji f fd ["_law_web_here","_law_line"])(T:ck mg):aP P w K mg base cM 1 f fd ["_law_web_here","_law_line"] (eA K 2 fJ):=by
  have nd:=qF.nd
  exact h.fn qF rfl rfl (fun cdv A outer s H E hr=>(@ah _ _ _ _ _ _ _ _ (@cW _ _ _ _ _ _ _ _ _ _ _ (@aQ _ _ _ _ _ _ _ _ _ (@tD _ _ _ rfl hr) (¬1) (@bO _ _ _ _ _ ((@am _ _ _ _ _)∘((@am _ _ _ _ _)∘((@am _ _ _ _ _)∘((@am _ _ _ _ _)∘((@am _ _ _ _ _)∘((@am _ _ _ _ _)∘((@am _ _ _ _ _)∘af)))))))) (by with_unfolding_all rfl))
      (@av _ _ _ _ _ (@aB _ _ _ _ _ (@lx _ _ _ _ _)))
      (@br _ _))
      (@av _ _ _ _ _ (@aB _ _ _ _ _ (@oJ _ _ _ _ _ _ _ _ _ (@tD _ _ _ rfl hr) (¬1) (@el _ _ _ _ _ _ _ _ _ _ _ _ _ [] ["_law_tie"] rfl rfl (@eM _ _ _ _ _ _ _ rfl T.b_range ((@aW _ _ _ _ _ _ _ _ _ (@b_len _ _ rfl) (by rfl) T.b_len ((@cD _ _ _ _ _ _ _ rfl (¬0) ag (fun _ _=>rfl))∘af) (by decide) (by decide) (by rfl) (by rfl))∘af) (by rfl))
        (fun C s0 H0 fp=>(@aI _ _ _ 0 _ (show Ra (["_law_tie"]:List Str) by decide+kernel) rfl (Or.inl rfl) (by trivial))) (fun C s0 H0 fp=>(@mY _ _))
        (fun C s0 H0 fp=>(@fg _ _ _ _ _ _ _ (@am _ _ _ _ _) (@aW _ _ _ _ _ _ _ _ _ (@b_str _ _) (by rfl) T.b_str ((¬0)∘af) (by decide) (by decide) (by rfl) (by rfl)))) rfl (by rfl) (by intro _;rfl)) (by with_unfolding_all rfl))))))
noncomputable def i4:XS:=(bh (fm 0 "web" (aC (ae 1)))
    (bh (fm 0 "run" (aC (c9 aj)))
    (fm 0 "waiting" (aC (vC .none)))))
noncomputable def b5:MX:=gu 2 0 ([]++([]++[])) (i4)
theorem jk:az ["self","web"] ["self","web"] (ar et):=⟨rfl,rfl,rfl,by decide+kernel,rfl,by decide+kernel,by decide+kernel⟩
theorem mN{P:PK}{w:PJ}{K:PF}{C:xM}{mg:Str→Option MG}{base:PL}{f:xM}{fd:PZ}(hF:uE K "__init__" "Desk.__init__" et f fd)(T:ck mg)(cl:qW K C)(na_run:bU K C "run")(na_waiting:bU K C "waiting")(na_web:bU K C "web"):aP P w K mg base cM 1 f fd ["self","web"] (rA K C 2 (b5)):=by
  have nd:=jk.nd
  exact hF.okY jk rfl rfl (fun cdv A outer s H E hr=>(@aX _ _ _ _ _ _ _ _ _ (@iL _ _ _ _ _ _ 0 _ _ _ _ rfl cl na_web (@be _ 0 _ _ (by rfl) (by first | exact Or.inl rfl | exact Or.inr (Or.inl rfl) | exact Or.inr (Or.inr rfl)) (by decide) (by decide)) (@ay _ _ _ _ _ (¬1)) (by rfl))
       (@aX _ _ _ _ _ _ _ _ _ (@iL _ _ _ _ _ _ 0 _ _ _ _ rfl cl na_run (@be _ 0 _ _ (by rfl) (by first | exact Or.inl rfl | exact Or.inr (Or.inl rfl) | exact Or.inr (Or.inr rfl)) (by decide) (by decide)) (@ay _ _ _ _ _ (@bM _ _ _ _ _ _ af)) (by rfl))
       (@bc _ _ _ _ _ _ (@iL _ _ _ _ _ _ 0 _ _ _ _ rfl cl na_waiting (@be _ 0 _ _ (by rfl) (by first | exact Or.inl rfl | exact Or.inr (Or.inl rfl) | exact Or.inr (Or.inr rfl)) (by decide) (by decide)) (@ay _ _ _ _ _ (@gK _ _ _ _)) (by rfl))))))
noncomputable def cE:XS:=(bh (cL (bG (dQ Ih (bR 0 "waiting") (aC (vC .none))))
    (bI (aC (vC (.str ("NoAsk":Str)))))
    bY)
    (bh (oM 2 (bR 0 "waiting"))
    (bh (fm 0 "run" (dQ bi (bR 0 "run") (aC (c9 (ac (c9 (ac (ae 2) (ac (ae 1) aj))) aj)))))
    (bh (fm 0 "waiting" (aC (vC .none)))
    (bI (wj (de (aE (ae 1))) (B' ("kept ":Str) (dQ dC (dQ dC (dQ dC (bR 0 "web") (aC (vC (.int 1)))) (aC (ae 2))) (aC (vC (.int 3))))) (aC (vC (.str ("gone":Str))))))))))
noncomputable def aU:MX:=gu 2 1 (([]++[])++([2]++([]++([]++[])))) (cE)
theorem gR:az ["self","truth","tie"] ["self","truth"] (ar cT):=⟨rfl,rfl,rfl,by decide+kernel,rfl,by decide+kernel,by decide+kernel⟩
theorem kr{P:PK}{w:PJ}{K:PF}{C:xM}{mg:Str→Option MG}{base:PL}{f:xM}{fd:PZ}(hF:uE K "take_answer" "Desk.take_answer" cT f fd)(T:ck mg)(cl:qW K C)(na_run:bU K C "run")(na_waiting:bU K C "waiting")(na_web:bU K C "web"):aP P w K mg base cM 1 f fd ["self","truth"] (rA K C 2 (aU)):=by
  have nd:=gR.nd
  exact hF.okY gR rfl rfl (fun cdv A outer s H E hr=>(@aX _ _ _ _ _ _ _ _ _ (@fQ _ _ _ _ _ _ _ _ _ _ _ _ (@iM _ _ _ _ _ _ _ _ _ _ (@IE _ _) (@cx _ _ _ _ 0 _ _ _ rfl cl na_waiting (@be _ 0 _ _ (by rfl) (by first | exact Or.inl rfl | exact Or.inr (Or.inl rfl) | exact Or.inr (Or.inr rfl)) (by decide) (by decide)) (by rfl)) (@ay _ _ _ _ _ (@gK _ _ _ _)) (aL _)) (@bc _ _ _ _ _ _ (@cS _ _ _ _ _ _ (@ay _ _ _ _ _ (@am _ _ _ _ _)))) (@ee _ _ _))
       (@aX _ _ _ _ _ _ _ _ _ (@yz _ _ _ _ _ _ 2 _ _ nd rfl (Or.inl rfl) (@cx _ _ _ _ 0 _ _ _ rfl cl na_waiting (@be _ 0 _ _ (by rfl) (by first | exact Or.inl rfl | exact Or.inr (Or.inl rfl) | exact Or.inr (Or.inr rfl)) (by decide) (by decide)) (by rfl)) (by rfl) (by trivial))
       (@aX _ _ _ _ _ _ _ _ _ (@iL _ _ _ _ _ _ 0 _ _ _ _ rfl cl na_run (@be _ 0 _ _ (by rfl) (by first | exact Or.inl rfl | exact Or.inr (Or.inl rfl) | exact Or.inr (Or.inr rfl)) (by decide) (by decide)) (@Hi _ _ _ _ _ _ _ _ rfl (@cx _ _ _ _ 0 _ _ _ rfl cl na_run (@be _ 0 _ _ (by rfl) (by first | exact Or.inl rfl | exact Or.inr (Or.inl rfl) | exact Or.inr (Or.inr rfl)) (by decide) (by decide)) (by rfl)) (@ay _ _ _ _ _ (@bM _ _ _ _ _ _ ((@bM _ _ _ _ _ _ ((¬2)∘((¬1)∘af)))∘af)))) (by rfl))
       (@aX _ _ _ _ _ _ _ _ _ (@iL _ _ _ _ _ _ 0 _ _ _ _ rfl cl na_waiting (@be _ 0 _ _ (by rfl) (by first | exact Or.inl rfl | exact Or.inr (Or.inl rfl) | exact Or.inr (Or.inr rfl)) (by decide) (by decide)) (@ay _ _ _ _ _ (@gK _ _ _ _)) (by rfl))
       (@bc _ _ _ _ _ _ (@cS _ _ _ _ _ _ (@su _ _ _ _ _ _ _ _ _ _ (@gz _ _ _ _ _ (@gL _ _ _ _ (¬1) (by intro _;rfl))) (@Jx _ _ _ _ _ _ _ _ _ _ (@Bm _ _ _ _ _ _ _ _ rfl (@Bm _ _ _ _ _ _ _ _ rfl (@Bm _ _ _ _ _ _ _ _ rfl (@cx _ _ _ _ 0 _ _ _ rfl cl na_web (@be _ 0 _ _ (by rfl) (by first | exact Or.inl rfl | exact Or.inr (Or.inl rfl) | exact Or.inr (Or.inr rfl)) (by decide) (by decide)) (by rfl)) (@ay _ _ _ _ _ ag) (fun _ _=>rfl)) (@ay _ _ _ _ _ (¬2)) (fun _ _=>rfl)) (@ay _ _ _ _ _ ag) (fun _ _=>rfl))) (@ay _ _ _ _ _ (@am _ _ _ _ _))))))))))
noncomputable def c_:XS:=(bh (cL (bG (dQ lK (bR 0 "waiting") (aC (vC .none))))
    (fm 0 "waiting" (aC (vC .none)))
    (cL (bG (dQ Co (oe (g1 dJ) (bQ (bR 0 "run") gE)) (aC (vC (.int 0)))))
    (fm 0 "run" (Et (bR 0 "run") none (some (-1))))
    (bI (aC (vC (.str ("NoAsk":Str)))))))
    (bI (aC (vC (.str ("back":Str))))))
noncomputable def bE:MX:=gu 1 0 (([]++([]++[]))++[]) (c_)
theorem iN:az ["self"] ["self"] (ar dP):=⟨rfl,rfl,rfl,by decide+kernel,rfl,by decide+kernel,by decide+kernel⟩
theorem lO{P:PK}{w:PJ}{K:PF}{C:xM}{mg:Str→Option MG}{base:PL}{f:xM}{fd:PZ}(hF:uE K "take_back" "Desk.take_back" dP f fd)(T:ck mg)(cl:qW K C)(na_run:bU K C "run")(na_waiting:bU K C "waiting"):aP P w K mg base cM 1 f fd ["self"] (rA K C 1 (bE)):=by
  have nd:=iN.nd
  exact hF.okY iN rfl rfl (fun cdv A outer s H E hr=>(@aX _ _ _ _ _ _ _ _ _ (@fQ _ _ _ _ _ _ _ _ _ _ _ _ (@iM _ _ _ _ _ _ _ _ _ _ (@tF _ _) (@cx _ _ _ _ 0 _ _ _ rfl cl na_waiting (@be _ 0 _ _ (by rfl) (by first | exact Or.inl rfl | exact Or.inr (Or.inl rfl) | exact Or.inr (Or.inr rfl)) (by decide) (by decide)) (by rfl)) (@ay _ _ _ _ _ (@gK _ _ _ _)) (aL _)) (@bc _ _ _ _ _ _ (@iL _ _ _ _ _ _ 0 _ _ _ _ rfl cl na_waiting (@be _ 0 _ _ (by rfl) (by first | exact Or.inl rfl | exact Or.inr (Or.inl rfl) | exact Or.inr (Or.inr rfl)) (by decide) (by decide)) (@ay _ _ _ _ _ (@gK _ _ _ _)) (by rfl))) (@bc _ _ _ _ _ _ (@fQ _ _ _ _ _ _ _ _ _ _ _ _ (@iM _ _ _ _ _ _ _ _ _ _ (@yU _ _) (@Hj _ _ _ _ _ _ _ _ _ (@b_len _ _ rfl) (by rfl) T.b_len (@lw _ _ _ _ _ _ _ (@cx _ _ _ _ 0 _ _ _ rfl cl na_run (@be _ 0 _ _ (by rfl) (by first | exact Or.inl rfl | exact Or.inr (Or.inl rfl) | exact Or.inr (Or.inr rfl)) (by decide) (by decide)) (by rfl)) (@mU _ _ _) (by rfl)) (by decide) (by decide) _ (by rfl) (by rfl)) (@ay _ _ _ _ _ ag) (aL _)) (@bc _ _ _ _ _ _ (@iL _ _ _ _ _ _ 0 _ _ _ _ rfl cl na_run (@be _ 0 _ _ (by rfl) (by first | exact Or.inl rfl | exact Or.inr (Or.inl rfl) | exact Or.inr (Or.inr rfl)) (by decide) (by decide)) (@Bo _ _ _ _ _ _ _ _ _ none (some (-1)) rfl (@cx _ _ _ _ 0 _ _ _ rfl cl na_run (@be _ 0 _ _ (by rfl) (by first | exact Or.inl rfl | exact Or.inr (Or.inl rfl) | exact Or.inr (Or.inr rfl)) (by decide) (by decide)) (by rfl)) (@df _ _) (@dg _ _ _ _ (@yt _ _ _ _ _ ag))) (by rfl))) (@bc _ _ _ _ _ _ (@cS _ _ _ _ _ _ (@ay _ _ _ _ _ (@am _ _ _ _ _)))))))
       (@bc _ _ _ _ _ _ (@cS _ _ _ _ _ _ (@ay _ _ _ _ _ (@am _ _ _ _ _))))))
noncomputable def dD:XS:=(bh (cL (xP (bG (dQ lK (bR 0 "waiting") (aC (vC .none)))) (sT (bG (nA 3 dO (bQ (bR 0 "web") (bQ (nA 2 b7 (bQ (bR 0 "web") (bQ (bR 0 "run") gE))) (bQ (aC (ae 1)) gE)))))))
    (bI (aC (vC (.str ("NoAsk":Str)))))
    bY)
    (bh (fm 0 "waiting" (aC (ae 1)))
    (bI (aC (vC (.str ("asked":Str)))))))
noncomputable def bw:MX:=gu 2 0 (([]++[])++([]++[])) (dD)
theorem jl:az ["self","tie"] ["self","tie"] (ar eu):=⟨rfl,rfl,rfl,by decide+kernel,rfl,by decide+kernel,by decide+kernel⟩
theorem mO{P:PK}{w:PJ}{K:PF}{C:xM}{mg:Str→Option MG}{base:PL}{f:xM}{fd:PZ}(hF:uE K "take_ask" "Desk.take_ask" eu f fd)(T:ck mg){ND:xM}{NE:PZ}(M4:fy K mg "may_ask" ik ND NE ["web","stand","tie"])(M_:aP P w K mg base cM 4 ND NE ["web","stand","tie"] (eA K 3 dO)){M7:xM}{M8:PZ}(MQ:fy K mg "stand_of_run" cJ M7 M8 ["web","run"])(MR:aP P w K mg base cM 3 M7 M8 ["web","run"] (eA K 2 b7))(cl:qW K C)(na_run:bU K C "run")(na_waiting:bU K C "waiting")(na_web:bU K C "web"):aP P w K mg base cM 5 f fd ["self","tie"] (rA K C 2 (bw)):=by
  have nd:=jl.nd
  exact hF.okY jl rfl rfl (fun cdv A outer s H E hr=>(@aX _ _ _ _ _ _ _ _ _ (@fQ _ _ _ _ _ _ _ _ _ _ _ _ (@E5 _ _ _ _ _ (@Hv _ _ _ _ _ _ _ _ _ (@iM _ _ _ _ _ _ _ _ _ _ (@tF _ _) (@cx _ _ _ _ 0 _ _ _ rfl cl na_waiting (@be _ 0 _ _ (by rfl) (by first | exact Or.inl rfl | exact Or.inr (Or.inl rfl) | exact Or.inr (Or.inr rfl)) (by decide) (by decide)) (by rfl)) (@ay _ _ _ _ _ (@gK _ _ _ _)) (aL _)) (@DZ _ _ _ _ _ _ (@DV _ _ _ _ _ _ (@DX _ _ _ _ _ (@Hk _ _ _ _ _ _ _ _ _ _ _ _ _ _ _ _ M4 M_ (hr.mono (by decide)) (@lw _ _ _ _ _ _ _ (@cx _ _ _ _ 0 _ _ _ rfl cl na_web (@be _ 0 _ _ (by rfl) (by first | exact Or.inl rfl | exact Or.inr (Or.inl rfl) | exact Or.inr (Or.inr rfl)) (by decide) (by decide)) (by rfl)) (@lw _ _ _ _ _ _ _ (@Hk _ _ _ _ _ _ _ _ _ _ _ _ _ _ _ _ MQ MR (hr.mono (by decide)) (@lw _ _ _ _ _ _ _ (@cx _ _ _ _ 0 _ _ _ rfl cl na_web (@be _ 0 _ _ (by rfl) (by first | exact Or.inl rfl | exact Or.inr (Or.inl rfl) | exact Or.inr (Or.inr rfl)) (by decide) (by decide)) (by rfl)) (@lw _ _ _ _ _ _ _ (@cx _ _ _ _ 0 _ _ _ rfl cl na_run (@be _ 0 _ _ (by rfl) (by first | exact Or.inl rfl | exact Or.inr (Or.inl rfl) | exact Or.inr (Or.inr rfl)) (by decide) (by decide)) (by rfl)) (@mU _ _ _) (by rfl)) (by rfl)) (by rfl) (by decide) (by rfl) (by rfl)) (@lw _ _ _ _ _ _ _ (@ay _ _ _ _ _ (¬1)) (@mU _ _ _) (by rfl)) (by rfl)) (by rfl)) (by rfl) (by decide) (by rfl) (by rfl)) (by intro _;rfl)))))) (@bc _ _ _ _ _ _ (@cS _ _ _ _ _ _ (@ay _ _ _ _ _ (@am _ _ _ _ _)))) (@ee _ _ _))
       (@aX _ _ _ _ _ _ _ _ _ (@iL _ _ _ _ _ _ 0 _ _ _ _ rfl cl na_waiting (@be _ 0 _ _ (by rfl) (by first | exact Or.inl rfl | exact Or.inr (Or.inl rfl) | exact Or.inr (Or.inr rfl)) (by decide) (by decide)) (@ay _ _ _ _ _ (¬1)) (by rfl))
       (@bc _ _ _ _ _ _ (@cS _ _ _ _ _ _ (@ay _ _ _ _ _ (@am _ _ _ _ _)))))))
def Hr:List Str:=["may","best","bound","kept"]
noncomputable def qs:List (Str × FM):=[("may",eD),("kept",du)]
noncomputable def cN:XS:=(bh (cL (de (kP (aE (qV (Ag "str") (ae 1)))))
    (bI (aC (vC (.str ("NoWord":Str)))))
    bY)
    (bh (cL (de (aE (aw (nD false) (ae 1) (c9 (ac (vC (.str ("yes":Str))) (ac (vC (.str ("no":Str))) aj))))))
    (bI (bP 2 aU (gM 0 "take_answer" (eN (aC (aw (bH false) (ae 1) (vC (.str ("yes":Str))))) dU))))
    bY)
    (bh (cL (de (aE (aw (bH false) (ae 1) (vC (.str ("back":Str))))))
    (bI (bP 1 bE (gM 0 "take_back" dU)))
    bY)
    (bh (cL (de (xD Hr (ae 1)))
    (vG 0 1 2 qs)
    bY)
    (bh (oM 3 (nA 2 bo (bQ (bR 0 "web") (bQ (aC (ae 1)) gE))))
    (bI (wj (de (aE (aw Ih (ae 3) (vC .none)))) (aC (vC (.str ("NoWord":Str)))) (bP 2 bw (gM 0 "take_ask" (eN (aC (ae 3)) dU))))))))))
noncomputable def aG:MX:=gu 2 2 (([]++[])++(([]++[])++(([]++[])++(([2]++[])++([3]++[]))))) (cN)
theorem oP:az ["self","line","question","tie"] ["self","line"] (ar jO):=⟨rfl,rfl,rfl,by decide+kernel,rfl,by decide+kernel,by decide+kernel⟩
theorem ui{P:PK}{w:PJ}{K:PF}{C:xM}{mg:Str→Option MG}{base:PL}{f:xM}{fd:PZ}(hF:uE K "say" "Desk.say" jO f fd)(T:ck mg){Nu:xM}{Nv:PZ}(MZ:fy K mg "tie_to_ask" fw Nu Nv ["web","line"])(M6:aP P w K mg base cM 2 Nu Nv ["web","line"] (eA K 2 bo)){f_Desk_take_answer:xM}{e_Desk_take_answer:PZ}(me_Desk_take_answer:nF K C "take_answer" f_Desk_take_answer)(B_Desk_take_answer:eQ K e_Desk_take_answer ["self","truth"] [])(G_Desk_take_answer:aP P w K mg base cM 1 f_Desk_take_answer e_Desk_take_answer ["self","truth"] (rA K C 2 aU)){f_Desk_take_back:xM}{e_Desk_take_back:PZ}(me_Desk_take_back:nF K C "take_back" f_Desk_take_back)(B_Desk_take_back:eQ K e_Desk_take_back ["self"] [])(G_Desk_take_back:aP P w K mg base cM 1 f_Desk_take_back e_Desk_take_back ["self"] (rA K C 1 bE)){Ni:xM}{NL:PZ}(M1:fy K mg "may_line" iF Ni NL ["web","run"])(Nj:aP P w K mg base cM 6 Ni NL ["web","run"] (eA K 2 eD)){Nc:xM}{NH:PZ}(MW:fy K mg "kept_line" gB Nc NH ["web","run"])(Nf:aP P w K mg base cM 3 Nc NH ["web","run"] (eA K 2 du)){f_Desk_take_ask:xM}{e_Desk_take_ask:PZ}(me_Desk_take_ask:nF K C "take_ask" f_Desk_take_ask)(B_Desk_take_ask:eQ K e_Desk_take_ask ["self","tie"] [])(G_Desk_take_ask:aP P w K mg base cM 5 f_Desk_take_ask e_Desk_take_ask ["self","tie"] (rA K C 2 bw))(cl:qW K C)(na_run:bU K C "run")(na_web:bU K C "web"){qa:xM}{ms:List (Str × xM)}(TQ:Ie K w qa ms)(hks:ms.map (·.1)=Hr)(mQ:mg "QUESTIONS"=some (.ref qa))(a_may:ms.lookup ("may":Str)=some Ni)(a_kept:ms.lookup ("kept":Str)=some Nc):aP P w K mg base cM 7 f fd ["self","line"] (rA K C 2 (aG)):=by
  have nd:=oP.nd
  exact hF.okY oP rfl rfl (fun cdv A outer s H E hr=>have hQ:∀(u:Str) (m:FM),qs.lookup u=some m→∃f,ms.lookup u=some f∧KI _ 6 f m:=(fun u m hm=>by
      unfold qs at hm
      rw [Qw] at hm
      by_cases c0:u="may"
      · subst c0;rw [show(("may":Str)=="may")=true from by decide] at hm;cases hm;exact⟨Ni,a_may,_,_,Nj.mono (by decide),M1.b,M1.F.kp⟩
      rw [show(u=="may")=false from beq_eq_false_iff_ne.mpr c0] at hm
      rw [Qw] at hm
      by_cases c1:u="kept"
      · subst c1;rw [show(("kept":Str)=="kept")=true from by decide] at hm;cases hm;exact⟨Nc,a_kept,_,_,Nf.mono (by decide),MW.b,MW.F.kp⟩
      rw [show(u=="kept")=false from beq_eq_false_iff_ne.mpr c1] at hm
      cases hm)
    (@aX _ _ _ _ _ _ _ _ _ (@fQ _ _ _ _ _ _ _ _ _ _ _ _ (@gz _ _ _ _ _ (@ul _ _ _ _ _ (@gL _ _ _ _ (@Jz _ _ _ _ _ _ _ _ "str" rfl (by decide) rfl T.b_isinstance rfl T.b_str PyProof.Rows.boot_str (by decide) (by decide) (¬1) (by rfl) (by rfl)) (by intro _;rfl)))) (@bc _ _ _ _ _ _ (@cS _ _ _ _ _ _ (@ay _ _ _ _ _ (@am _ _ _ _ _)))) (@ee _ _ _))
       (@aX _ _ _ _ _ _ _ _ _ (@fQ _ _ _ _ _ _ _ _ _ _ _ _ (@gz _ _ _ _ _ (@aQ _ _ _ _ _ _ _ _ _ (@tD _ _ _ rfl hr) (¬1) (@bM _ _ _ _ _ _ ((@am _ _ _ _ _)∘((@am _ _ _ _ _)∘af))) (by with_unfolding_all rfl))) (@bc _ _ _ _ _ _ (@cS _ _ _ _ _ _ (@lc _ _ _ _ _ _ _ _ _ 0 _ _ _ _ _ _ _ _ _ rfl (@be _ 0 _ _ (by rfl) (by first | exact Or.inl rfl | exact Or.inr (Or.inl rfl) | exact Or.inr (Or.inr rfl)) (by decide) (by decide)) cl me_Desk_take_answer G_Desk_take_answer (hr.mono (by decide)) B_Desk_take_answer (@sx _ _ _ _ _ _ _ (@ay _ _ _ _ _ (@oJ _ _ _ _ _ _ _ _ _ (@j7 _ _ _ rfl hr) (¬1) (@am _ _ _ _ _) (aL _))) (@lg _ _ _) (by rfl)) (by rfl) (by rfl) (by rfl)))) (@ee _ _ _))
       (@aX _ _ _ _ _ _ _ _ _ (@fQ _ _ _ _ _ _ _ _ _ _ _ _ (@gz _ _ _ _ _ (@aQ _ _ _ _ _ _ _ _ _ (@j7 _ _ _ rfl hr) (¬1) (@am _ _ _ _ _) (aL _))) (@bc _ _ _ _ _ _ (@cS _ _ _ _ _ _ (@Bn _ _ _ _ _ _ 0 _ _ _ _ _ _ _ _ _ rfl (@be _ 0 _ _ (by rfl) (by first | exact Or.inl rfl | exact Or.inr (Or.inl rfl) | exact Or.inr (Or.inr rfl)) (by decide) (by decide)) cl me_Desk_take_back G_Desk_take_back (hr.mono (by decide)) B_Desk_take_back (by rfl)))) (@ee _ _ _))
       (@aX _ _ _ _ _ _ _ _ _ (@fQ _ _ _ _ _ _ _ _ _ _ _ _ (@gz _ _ _ _ _ (@Hu _ _ _ _ _ _ _ _ _ _ rfl TQ hks (¬1) rfl mQ (by decide) (by with_unfolding_all rfl))) (@Bw _ _ _ _ _ _ _ _ 0 1 2 _ _ _ _ _ _ _ _ _ _ _ _ rfl TQ hr hQ rfl mQ (by decide) (@be _ 1 _ _ (by rfl) (by first | exact Or.inl rfl | exact Or.inr (Or.inl rfl) | exact Or.inr (Or.inr rfl)) (by decide) (by decide)) nd rfl (Or.inl rfl) (by rfl) (by trivial) (@be _ 2 _ _ (by rfl) (by first | exact Or.inl rfl | exact Or.inr (Or.inl rfl) | exact Or.inr (Or.inr rfl)) (by decide) (by decide)) (@lw _ _ _ _ _ _ _ (@cx _ _ _ _ 0 _ _ _ rfl cl na_web (@be _ 0 _ _ (by rfl) (by first | exact Or.inl rfl | exact Or.inr (Or.inl rfl) | exact Or.inr (Or.inr rfl)) (by decide) (by decide)) (by rfl)) (@lw _ _ _ _ _ _ _ (@cx _ _ _ _ 0 _ _ _ rfl cl na_run (@be _ 0 _ _ (by rfl) (by first | exact Or.inl rfl | exact Or.inr (Or.inl rfl) | exact Or.inr (Or.inr rfl)) (by decide) (by decide)) (by rfl)) (@mU _ _ _) (by rfl)) (by rfl)) (by rfl) (by rfl)) (@ee _ _ _))
       (@aX _ _ _ _ _ _ _ _ _ (@yz _ _ _ _ _ _ 3 _ _ nd rfl (Or.inl rfl) (@Hk _ _ _ _ _ _ _ _ _ _ _ _ _ _ _ _ MZ M6 (hr.mono (by decide)) (@lw _ _ _ _ _ _ _ (@cx _ _ _ _ 0 _ _ _ rfl cl na_web (@be _ 0 _ _ (by rfl) (by first | exact Or.inl rfl | exact Or.inr (Or.inl rfl) | exact Or.inr (Or.inr rfl)) (by decide) (by decide)) (by rfl)) (@lw _ _ _ _ _ _ _ (@ay _ _ _ _ _ (¬1)) (@mU _ _ _) (by rfl)) (by rfl)) (by rfl) (by decide) (by rfl) (by rfl)) (by rfl) (by trivial))
       (@bc _ _ _ _ _ _ (@cS _ _ _ _ _ _ (@su _ _ _ _ _ _ _ _ _ _ (@gz _ _ _ _ _ (@aQ _ _ _ _ _ _ _ _ _ (@IE _ _) (¬3) (@gK _ _ _ _) (aL _))) (@ay _ _ _ _ _ (@am _ _ _ _ _)) (@lc _ _ _ _ _ _ _ _ _ 0 _ _ _ _ _ _ _ _ _ rfl (@be _ 0 _ _ (by rfl) (by first | exact Or.inl rfl | exact Or.inr (Or.inl rfl) | exact Or.inr (Or.inr rfl)) (by decide) (by decide)) cl me_Desk_take_ask G_Desk_take_ask (hr.mono (by decide)) B_Desk_take_ask (@sx _ _ _ _ _ _ _ (@ay _ _ _ _ _ (¬3)) (@lg _ _ _) (by rfl)) (by rfl) (by rfl) (by rfl)))))))))))
noncomputable def K6:FI:=(ek (ac (vC (.int 20)) aj))
noncomputable def Iy:XS:=(bh (dy [6] (aS 6 (cB 2 iA (ac (ae 1) (ac (ae 2) aj)))))
    (bh (cL (de (kP (aE (cB 2 fJ (ac (ae 2) (ac (ae 6) aj))))))
    (cL (bG (dQ (bH true) (bP 2 aG (gM 3 "say" (eN (aC (ae 6)) dU))) (aC (vC (.str ("NoWord":Str))))))
    (bI (aC (vC (.bool false))))
    bY)
    (cL (qP (de (aE (aw (nD true) (ae 6) (cc (ac (vC (.str ("best":Str))) (ac (vC (.str ("bound":Str))) aj)))))) (bG (dQ (bH true) (bP 2 aG (gM 3 "say" (eN (aC (ae 6)) dU))) (aC (cB 3 jT (ac (ae 2) (ac (ae 4) (ac (ae 6) aj))))))))
    (bI (aC (vC (.bool false))))
    bY))
    (bh (dy [7] (aS 7 (cB 2 fH (ac (ae 1) (ac (ae 2) aj)))))
    (cL (bG (dQ (bH true) (bP 2 aG (gM 3 "say" (eN (aC (ae 7)) dU))) (aC (cB 3 jT (ac (ae 2) (ac (ae 4) (ac (ae 7) aj)))))))
    (bI (aC (vC (.bool false))))
    bY))))
noncomputable def K7:FI:=(ki (cc (ac (vC (.str ("may":Str))) (ac (vC (.str ("kept":Str))) (ac (vC (.str ("back":Str))) (ac (vC (.str ("back":Str))) (ac (vC (.str ("kept":Str))) aj)))))))
noncomputable def Iz:XS:=(cL (bG (dQ (bH true) (bP 2 aG (gM 3 "say" (eN (aC (ae 8)) dU))) (aC (cB 3 jT (ac (ae 2) (ac (ae 4) (ac (ae 8) aj)))))))
    (bI (aC (vC (.bool false))))
    bY)
noncomputable def tw:XS:=(bh (dy [1] (aS 1 (cB 1 k9 (ac (ae 0) aj))))
    (bh (dy [2] (aS 2 (cB 3 se (ac (ae 1) (ac (vC (.int 8)) (ac (vC (.int 16)) aj))))))
    (bh (BJ 3 b5 (aC (ae 2)))
    (bh (dy [4] (aS 4 (cc (ac (cc aj) (ac (qV wM (vC (.int 1))) aj)))))
    (bh (oK [5] K6 (aq 5) Iy)
    (bh (oK [8] K7 (aq 8) Iz)
    (bI (aC (vC (.bool true))))))))))
noncomputable def nR:MX:=gu 1 8 ([1]++([2]++([3]++([4]++(([5]++([6]++((([]++[])++([]++[]))++([7]++([]++[])))))++(([8]++([]++[]))++[])))))) (tw)
theorem BV:az ["_law_script","_law_drawn","_law_web_here","_law_desk","_law_state","_law_number","_law_odd","_law_line","_law_word"] ["_law_script"] (ar qB):=⟨rfl,rfl,rfl,by decide+kernel,rfl,by decide+kernel,by decide+kernel⟩
theorem Dl{P:PK}{w:PJ}{K:PF}{C:xM}{mg:Str→Option MG}{base:PL}{f:xM}{fd:PZ}(h:fy K mg "law" qB f fd ["_law_script"])(T:ck mg){Oo:xM}{Oq:PZ}(NI:fy K mg "_law_draws" mZ Oo Oq ["_law_script"])(NP:aP P w K mg base cM 2 Oo Oq ["_law_script"] (eA K 1 k9)){OY:xM}{OZ:PZ}(Os:fy K mg "_law_web" vL OY OZ ["_law_drawn","_law_most","_law_ties_here"])(Oy:aP P w K mg base cM 5 OY OZ ["_law_drawn","_law_most","_law_ties_here"] (eA K 3 se)){f_Desk___init__:xM}{e_Desk___init__:PZ}(MK:Mk K C f_Desk___init__)(mC:mg "Desk"=some (.ref C))(B_Desk___init__:eQ K e_Desk___init__ ["self","web"] [])(G_Desk___init__:aP P w K mg base cM 1 f_Desk___init__ e_Desk___init__ ["self","web"] (rA K C 2 b5)){NM:xM}{NN:PZ}(M':fy K mg "_law_odd_line" iE NM NN ["_law_drawn","_law_web_here"])(Nk:aP P w K mg base cM 3 NM NN ["_law_drawn","_law_web_here"] (eA K 2 iA)){Om:xM}{On:PZ}(NG:fy K mg "_law_deed" nZ Om On ["_law_drawn","_law_web_here"])(NK:aP P w K mg base cM 2 Om On ["_law_drawn","_law_web_here"] (eA K 2 fH)){NR:xM}{NS:PZ}(Ng:fy K mg "_law_is_line" ji NR NS ["_law_web_here","_law_line"])(Nq:aP P w K mg base cM 1 NR NS ["_law_web_here","_law_line"] (eA K 2 fJ)){f_Desk_say:xM}{e_Desk_say:PZ}(me_Desk_say:nF K C "say" f_Desk_say)(B_Desk_say:eQ K e_Desk_say ["self","line"] [])(G_Desk_say:aP P w K mg base cM 7 f_Desk_say e_Desk_say ["self","line"] (rA K C 2 aG)){O0:xM}{O1:PZ}(NX:fy K mg "_law_due" vH O0 O1 ["_law_web_here","_law_state","_law_line"])(N7:aP P w K mg base cM 5 O0 O1 ["_law_web_here","_law_state","_law_line"] (eA K 3 jT))(cl:qW K C):aP P w K mg base cM 8 f fd ["_law_script"] (rA K C 1 (nR)):=by
  have nd:=BV.nd
  exact h.F.okY BV rfl rfl (fun cdv A outer s H E hr=>(@aX _ _ _ _ _ _ _ _ _ (@ky _ _ _ _ _ _ (@aH _ _ _ _ _ 1 _ _ nd rfl (Or.inl rfl) (@bD _ _ _ _ _ _ _ _ _ _ _ _ _ _ _ NI NP (hr.mono (by decide)) ((¬0)∘af) (by rfl) (by decide) (by rfl) (by rfl)) (by rfl) (by trivial)))
       (@aX _ _ _ _ _ _ _ _ _ (@ky _ _ _ _ _ _ (@aH _ _ _ _ _ 2 _ _ nd rfl (Or.inl rfl) (@bD _ _ _ _ _ _ _ _ _ _ _ _ _ _ _ Os Oy (hr.mono (by decide)) ((¬1)∘(ag∘(ag∘af))) (by rfl) (by decide) (by rfl) (by rfl)) (by rfl) (by trivial)))
       (@aX _ _ _ _ _ _ _ _ _ (@Bu _ _ _ _ _ _ _ 3 _ _ _ _ _ _ _ _ _ rfl MK G_Desk___init__ (hr.mono (by decide)) rfl mC B_Desk___init__ (@ay _ _ _ _ _ (¬2)) nd rfl (Or.inl rfl) (by rfl) (by decide) (by rfl) (by rfl) (by rfl) (by trivial))
       (@aX _ _ _ _ _ _ _ _ _ (@ky _ _ _ _ _ _ (@aH _ _ _ _ _ 4 _ _ nd rfl (Or.inl rfl) (@bO _ _ _ _ _ ((@bO _ _ _ _ _ af)∘((@yt _ _ _ _ _ ag)∘af))) (by rfl) (by trivial)))
       (@aX _ _ _ _ _ _ _ _ _ (@yx _ _ _ _ _ _ _ _ _ _ _ _ RF rfl (@eM _ _ _ _ _ _ _ rfl T.b_range (ag∘af) (by rfl)) (@aI _ _ _ 5 _ nd rfl (Or.inl rfl) (by trivial)) (@aX _ _ _ _ _ _ _ _ _ (@ky _ _ _ _ _ _ (@aH _ _ _ _ _ 6 _ _ nd rfl (Or.inl rfl) (@bD _ _ _ _ _ _ _ _ _ _ _ _ _ _ _ M' Nk (hr.mono (by decide)) ((¬1)∘((¬2)∘af)) (by rfl) (by decide) (by rfl) (by rfl)) (by rfl) (by trivial)))
       (@aX _ _ _ _ _ _ _ _ _ (@fQ _ _ _ _ _ _ _ _ _ _ _ _ (@gz _ _ _ _ _ (@ul _ _ _ _ _ (@gL _ _ _ _ (@bD _ _ _ _ _ _ _ _ _ _ _ _ _ _ _ Ng Nq (hr.mono (by decide)) ((¬2)∘((¬6)∘af)) (by rfl) (by decide) (by rfl) (by rfl)) (by intro _;rfl)))) (@bc _ _ _ _ _ _ (@fQ _ _ _ _ _ _ _ _ _ _ _ _ (@iM _ _ _ _ _ _ _ _ _ _ (@wC _ _ _ rfl hr) (@lc _ _ _ _ _ _ _ _ _ 3 _ _ _ _ _ _ _ _ _ rfl (@be _ 3 _ _ (by rfl) (by first | exact Or.inl rfl | exact Or.inr (Or.inl rfl) | exact Or.inr (Or.inr rfl)) (by decide) (by decide)) cl me_Desk_say G_Desk_say (hr.mono (by decide)) B_Desk_say (@sx _ _ _ _ _ _ _ (@ay _ _ _ _ _ (¬6)) (@lg _ _ _) (by rfl)) (by rfl) (by rfl) (by rfl)) (@ay _ _ _ _ _ (@am _ _ _ _ _)) (aL _)) (@bc _ _ _ _ _ _ (@cS _ _ _ _ _ _ (@ay _ _ _ _ _ (@lx _ _ _ _ _)))) (@ee _ _ _))) (@bc _ _ _ _ _ _ (@fQ _ _ _ _ _ _ _ _ _ _ _ _ (@E5 _ _ _ _ _ (@DY _ _ _ _ _ _ _ _ _ (@gz _ _ _ _ _ (@aQ _ _ _ _ _ _ _ _ _ (@x5 _ _ _ rfl hr) (¬6) (@bO _ _ _ _ _ ((@am _ _ _ _ _)∘((@am _ _ _ _ _)∘af))) (by with_unfolding_all rfl))) (@Bx _ _ _ _ _ _ (@iM _ _ _ _ _ _ _ _ _ _ (@wC _ _ _ rfl hr) (@lc _ _ _ _ _ _ _ _ _ 3 _ _ _ _ _ _ _ _ _ rfl (@be _ 3 _ _ (by rfl) (by first | exact Or.inl rfl | exact Or.inr (Or.inl rfl) | exact Or.inr (Or.inr rfl)) (by decide) (by decide)) cl me_Desk_say G_Desk_say (hr.mono (by decide)) B_Desk_say (@sx _ _ _ _ _ _ _ (@ay _ _ _ _ _ (¬6)) (@lg _ _ _) (by rfl)) (by rfl) (by rfl) (by rfl)) (@ay _ _ _ _ _ (@bD _ _ _ _ _ _ _ _ _ _ _ _ _ _ _ NX N7 (hr.mono (by decide)) ((¬2)∘((¬4)∘((¬6)∘af))) (by rfl) (by decide) (by rfl) (by rfl))) (aL _))))) (@bc _ _ _ _ _ _ (@cS _ _ _ _ _ _ (@ay _ _ _ _ _ (@lx _ _ _ _ _)))) (@ee _ _ _))))
       (@aX _ _ _ _ _ _ _ _ _ (@ky _ _ _ _ _ _ (@aH _ _ _ _ _ 7 _ _ nd rfl (Or.inl rfl) (@bD _ _ _ _ _ _ _ _ _ _ _ _ _ _ _ NG NK (hr.mono (by decide)) ((¬1)∘((¬2)∘af)) (by rfl) (by decide) (by rfl) (by rfl)) (by rfl) (by trivial)))
       (@bc _ _ _ _ _ _ (@fQ _ _ _ _ _ _ _ _ _ _ _ _ (@iM _ _ _ _ _ _ _ _ _ _ (@wC _ _ _ rfl hr) (@lc _ _ _ _ _ _ _ _ _ 3 _ _ _ _ _ _ _ _ _ rfl (@be _ 3 _ _ (by rfl) (by first | exact Or.inl rfl | exact Or.inr (Or.inl rfl) | exact Or.inr (Or.inr rfl)) (by decide) (by decide)) cl me_Desk_say G_Desk_say (hr.mono (by decide)) B_Desk_say (@sx _ _ _ _ _ _ _ (@ay _ _ _ _ _ (¬7)) (@lg _ _ _) (by rfl)) (by rfl) (by rfl) (by rfl)) (@ay _ _ _ _ _ (@bD _ _ _ _ _ _ _ _ _ _ _ _ _ _ _ NX N7 (hr.mono (by decide)) ((¬2)∘((¬4)∘((¬7)∘af))) (by rfl) (by decide) (by rfl) (by rfl))) (aL _)) (@bc _ _ _ _ _ _ (@cS _ _ _ _ _ _ (@ay _ _ _ _ _ (@lx _ _ _ _ _)))) (@ee _ _ _)))))) (by intro _;rfl))
       (@aX _ _ _ _ _ _ _ _ _ (@yx _ _ _ _ _ _ _ _ _ _ _ _ RF rfl (@fP _ _ _ _ _ rfl (@bO _ _ _ _ _ ((@am _ _ _ _ _)∘((@am _ _ _ _ _)∘((@am _ _ _ _ _)∘((@am _ _ _ _ _)∘((@am _ _ _ _ _)∘af))))))) (@aI _ _ _ 8 _ nd rfl (Or.inl rfl) (by trivial)) (@bc _ _ _ _ _ _ (@fQ _ _ _ _ _ _ _ _ _ _ _ _ (@iM _ _ _ _ _ _ _ _ _ _ (@wC _ _ _ rfl hr) (@lc _ _ _ _ _ _ _ _ _ 3 _ _ _ _ _ _ _ _ _ rfl (@be _ 3 _ _ (by rfl) (by first | exact Or.inl rfl | exact Or.inr (Or.inl rfl) | exact Or.inr (Or.inr rfl)) (by decide) (by decide)) cl me_Desk_say G_Desk_say (hr.mono (by decide)) B_Desk_say (@sx _ _ _ _ _ _ _ (@ay _ _ _ _ _ (¬8)) (@lg _ _ _) (by rfl)) (by rfl) (by rfl) (by rfl)) (@ay _ _ _ _ _ (@bD _ _ _ _ _ _ _ _ _ _ _ _ _ _ _ NX N7 (hr.mono (by decide)) ((¬2)∘((¬4)∘((¬8)∘af))) (by rfl) (by decide) (by rfl) (by rfl))) (aL _)) (@bc _ _ _ _ _ _ (@cS _ _ _ _ _ _ (@ay _ _ _ _ _ (@lx _ _ _ _ _)))) (@ee _ _ _))) (by intro _;rfl))
       (@bc _ _ _ _ _ _ (@cS _ _ _ _ _ _ (@ay _ _ _ _ _ (@lx _ _ _ _ _)))))))))))
noncomputable def vm:FM:=AD nR
local macro_rules | `(tactic| simp? [$ts,*]) => `(tactic| simp [$ts,*, gQ, jU, aJ, je, bf, dh, aS, iC, lp, pj, qk, aE, aw, qV, ae, vC, cc, aj, ac, c9, aA, cB, lq, uG, kP, xO, jY, uA, nB, uB, bC, bx, eO, cu, uc, fK, gP, iw, dm, bW, pM, sP, cn, aF, aq, bT, cz, aO, bv, p9, dZ, eT, cP, eU, hE, g9, gY, gX, eW, eV, eX, dI, eS, mB, eJ, jD, mD, gG, g_, jE, iU, e7, e6, dM, e8, mF, jq, cY, iR, iS, me, dG, dF, ed, gZ, PX, -Qv, -Qk, -QS, -RQ, -Qb, -Qy, -getElem?_pos, -Rh, mw, mv, ml, mj, mq, mr, mn, mx])
theorem Cj{n k:Int}(h:0 < k):0≤n % k:=SE _ (Int.ne_of_gt h)
theorem Ck{n k:Int}(h:0 < k):n % k < k:=SF _ h
def nx:List Int→Int
  | []=>0
  | d::_=>d
def kX(ds:List Int):Prop:=∀d∈ds,0≤d∧d < 2147483648
theorem AS{ds:List Int}(h:kX ds):0≤nx ds∧nx ds < 2147483648:=by
  cases ds with
  | nil=>exact⟨Int.le_refl 0,by show(0:Int) < 2147483648;decide⟩
  | cons d r=>exact h d (by simp)
theorem J'{ds:List Int}(h:kX ds):kX ds.tail:=fun d hd=>h d (Tr hd)
theorem xF(ds:List Int):bL [.l (ds.map .int)]=some (.d (.int (nx ds)),[.l (ds.tail.map .int)]):=by
  have hq:∀e:En,e[0]?=some (some (.l (ds.map .int)))→bH false e (.s 0) (.l [])=some (.d (.bool (ds.map PyData.int).isEmpty)):=fun e he=>Ad he (oS ds).1
  cases ds with
  | nil=>simp? [bL,wA,hq,nx]
  | cons d r=>simp? [bL,wA,hq,nx]
theorem n_{ds:List Int}(hd:kX ds):∃(n:Int) (ds':List Int),bL [.l (ds.map .int)]=some (.d (.int n),[.l (ds'.map .int)])∧0≤n∧n < 2147483648∧kX ds':=⟨nx ds,ds.tail,xF ds,(AS hd).1,(AS hd).2,J' hd⟩
theorem yP(cell k:Int)(h0:0≤k)(h1:k≤1000):∃r,k_ [.d (.int cell),.d (.int k)]=some (.d (.int r),[.d (.int cell),.d (.int k)])∧0≤r∧r < 2147483648:=by
  have a1:nQ (cell % 2147483647) 48271=true:=ud (by decide) (by decide)
  have a2:nQ 7919 k=true:=AH (by decide) (by decide)
  have a3:nQ (7919*k) k=true:=ud (by lia) (by lia)
  have a4:nQ ((cell % 2147483647*48271+7919*k*k+104729) % 2147483647) ((cell % 2147483647*48271+7919*k*k+104729) % 2147483647)=true:=ud (by lia) (by lia)
  refine⟨_,by simp? [k_,xV,a9,pR,a1,a2,a3,a4];rfl,?_,?_⟩
  · lia
  · lia
theorem tM{ds:List Int}(h:kX ds){r:Int}(h0:0≤r)(h1:r < 2147483648):kX (ds++[r]):=fun d hd=>by
  rcases Pv hd with hd | hd
  · exact h d hd
  · simp at hd;subst hd;exact⟨h0,h1⟩
abbrev dE(ns ds:List Int)(v2 v3 v4:Option Sv):En:=[some (.d (.list (ns.map .int))),some (.l (ds.map .int)),v2,v3,v4]
inductive DI (ns:List Int) (i:Nat):En→Prop
  | mk {ds v2 v3 v4} (hd:kX ds) (hl:ds.length≤1000*i):DI ns i (dE ns ds v2 v3 v4)
inductive DJ (ns:List Int) (k cell:Int) (n i:Nat):En→Prop
  | mk {ds v4} (hd:kX ds) (hl:ds.length=n+i):DJ ns k cell n i (dE ns ds (some (.d (.int k))) (some (.d (.int cell))) v4)
inductive DW (ns:List Int) (k:Int) (v4:Option Sv) (n:Nat):En→Prop
  | mk {cell ds} (hc:0≤cell) (hd:kX ds) (hl:ds.length≤max n 900):DW ns k v4 n (dE ns ds (some (.d (.int k))) (some (.d (.int cell))) v4)
theorem Ej(ns:List Int)(hn:ns.length≤63):∃ds,k9 [.d (.list (ns.map .int))]=some (.l (ds.map .int),[.d (.list (ns.map .int))])∧kX ds:=by
  have inner:∀(cell k:Int) (ds:List Int) (v4:Option Sv),0≤k→k≤63→kX ds→ds.length≤63000→∃ds' v4',(∀W,jM W kY (aq 4) iX (dE ns ds (some (.d (.int k))) (some (.d (.int cell))) v4)=some (.nx (dE ns ds' (some (.d (.int k))) (some (.d (.int cell))) v4')))∧kX ds'∧ds'.length=ds.length+12:=by
    intro cell k ds v4 k0 k1 hd hl
    obtain⟨e',h1,h2⟩:=ke (own:=[]) (g:=aq 4) (f:=iX) (DJ ns k cell ds.length) (bg 0 12) 0 (dE ns ds (some (.d (.int k))) (some (.d (.int cell))) v4) (fun i x e hx hI=>by
      obtain⟨rfl,hi⟩:=dw hx
      obtain⟨hd',hl'⟩:=hI
      rename_i ds' v4'
      obtain⟨r1,c1,_,_⟩:=yP cell (3*(0+(i:Int))+1) (by lia) (by lia)
      obtain⟨r2,c2,c3,c4⟩:=yP r1 (0+(i:Int)+k+2) (by lia) (by lia)
      have a1:nQ 3 (0+(i:Int))=true:=AH (by decide) (by decide)
      refine⟨_,dE ns (ds'++[r2]) (some (.d (.int k))) (some (.d (.int cell))) (some (.d (.int (0+(i:Int))))),rfl,?_,dN,.mk (tM hd' c3 c4) (by simp;lia)⟩
      have hlen:ds'.length < 1000000:=by lia
      simp only [Ts] at a1 c1 c2
      simp? [dE,iX,c1,c2,pR,a1,hlen]) (.mk hd rfl)
    obtain⟨hd',hl'⟩:=h2
    rename_i ds' v4'
    rw [eE] at hl'
    refine⟨ds',v4',fun W=>?_,hd',by lia⟩
    rw [jN (show kY _=some (bg 0 12,[],_) from dr (n:=12) rfl (by decide) (by decide))]
    exact h1
  have wh:∀(cell k:Int) (ds:List Int) (v4:Option Sv),0≤cell→kX ds→ds.length≤63100→∃cell' ds',qA (2 ^ 4200) ic kR (dE ns ds (some (.d (.int k))) (some (.d (.int cell))) v4)=some (.nx (dE ns ds' (some (.d (.int k))) (some (.d (.int cell'))) v4))∧0≤cell'∧kX ds'∧ds'.length≤max ds.length 900:=by
    intro cell k ds v4 hc hd hl
    have tst:∀(cell:Int) (ds:List Int),ic (dE ns ds (some (.d (.int k))) (some (.d (.int cell))) v4)=some (decide (1000000000000000000≤cell)&&decide ((ds.length:Int) < 900),dE ns ds (some (.d (.int k))) (some (.d (.int cell))) v4):=by
      intro cell ds
      by_cases h:(1000000000000000000:Int)≤cell
      · simp? [dE,ic,mE,mR,h]
      · simp? [dE,ic,mE,mR,h]
    obtain⟨e0,e',h1,hI,h3⟩:=qS (ft:=ic) (f:=kR) (DW ns k v4 ds.length)
      (fun e=>1000000 - ET 1 e) (fun e hI=>by
        obtain⟨hc',hd',hl'⟩:=hI
        rename_i cell' ds'
        rw [tst]
        by_cases c1:(1000000000000000000:Int)≤cell'
        · by_cases c2:(ds'.length:Int) < 900
          · refine .inr ⟨_,dE ns (ds'++[cell' % 2147483629]) (some (.d (.int k))) (some (.d (.int (cell' / 2147483629)))) v4,by rw [decide_eq_true c1,decide_eq_true c2];rfl,?_,.mk (by lia) (tM hd' (by lia) (by lia)) (by simp;lia),?_⟩
            · have hlen:ds'.length < 1000000:=by lia
              have b8:Bt 8000 2147483629:=pJ (by decide) (by decide)
              simp? [dE,kR,a9,eI,b8,hlen]
            · simp [ET,dE];lia
          · exact .inl ⟨_,by rw [decide_eq_true c1,decide_eq_false c2];rfl,trivial⟩
        · exact .inl ⟨_,by rw [decide_eq_false c1];rfl,trivial⟩) (2 ^ 4200) _ (.mk hc hd (by lia)) (yk (m:=20) (Uv (Nat.sub_le _ _) (by decide)) (by decide))
    obtain⟨hc',hd',hl'⟩:=hI
    rename_i cell' ds'
    rw [tst] at h3
    have h4:=(Prod.mk.inj (QO h3)).2
    subst h4
    exact⟨cell',ds',h1,hc',hd',hl'⟩
  have turn:∀(i:Nat) (ds:List Int) (v3 v4:Option Sv) (hi:i < ns.length),kX ds→ds.length≤1000*i→∃ds2 v3' v4',h9 (dE ns ds (some (.d (.int (i:Int)))) v3 v4)=some (.nx (dE ns ds2 (some (.d (.int (i:Int)))) v3' v4'))∧kX ds2∧ds2.length≤1000*(i+1):=by
    intro i ds v3 v4 hi hd hl
    have hcell:atI (ns.map PyData.int) (i:Int)=some (.int ns[i]):=by
      rw [jr (by lia) (by rw [Qh];lia)]
      simp [hi]
    have c0:(0:Int)≤(ns[i].natAbs:Int):=by lia
    have st:aS 3 (aA (g1 y9) (ac (aw dC (ae 0) (ae 2)) aj)) (dE ns ds (some (.d (.int (i:Int)))) v3 v4)=some (.nx (dE ns ds (some (.d (.int (i:Int)))) (some (.d (.int (ns[i].natAbs:Int)))) v4)):=by
      simp? [dE,hcell]
    generalize (ns[i].natAbs:Int)=cell at c0 st
    have mid:∃ds1 v4',je (aE (aw wK (ae 3) (aw wN (vC (.int 10)) (vC (.int 18))))) (jM ([4]++[]) kY (aq 4) iX) dh (dE ns ds (some (.d (.int (i:Int)))) (some (.d (.int cell))) v4)=some (.nx (dE ns ds1 (some (.d (.int (i:Int)))) (some (.d (.int cell))) v4'))∧kX ds1∧ds1.length≤ds.length+12:=by
      by_cases cb:cell < 1000000000000000000
      · obtain⟨ds1,v4',f1,f2,f3⟩:=inner cell (i:Int) ds v4 (by lia) (by lia) hd (by lia)
        refine⟨ds1,v4',?_,f2,by lia⟩
        rw [JQ (e1:=dE ns ds (some (.d (.int (i:Int)))) (some (.d (.int cell))) v4) (by simp? [dE,mE,mR,cb])]
        exact f1 _
      · refine⟨ds,v4,?_,hd,by lia⟩
        rw [JP (e1:=dE ns ds (some (.d (.int (i:Int)))) (some (.d (.int cell))) v4) (by simp? [dE,mE,mR,cb])]
        rfl
    obtain⟨ds1,v4',m1,m2,m3⟩:=mid
    obtain⟨cell2,ds2,w1,w2,w3,w4⟩:=wh cell (i:Int) ds1 v4' c0 m2 (by lia)
    by_cases c2:(2147483629:Int)≤cell2
    · refine⟨ds2++[cell2 % 2147483629],some (.d (.int cell2)),v4',?_,tM w3 (by lia) (by lia),by simp;lia⟩
      have hlen:ds2.length < 1000000:=by lia
      unfold h9
      rw [li st,li m1,li w1]
      simp? [dE,c2,a9,hlen]
    · refine⟨ds2,some (.d (.int cell2)),v4',?_,w3,by lia⟩
      unfold h9
      rw [li st,li m1,li w1]
      simp? [dE,c2]
  obtain⟨e',h1,hI⟩:=ke (own:=[]) (g:=aq 2) (f:=h9) (DI ns) (bg 0 (min (ns.length:Int) 63).toNat) 0 (dE ns [] none none none) (fun i x e hx hI=>by
    obtain⟨rfl,hi⟩:=dw hx
    obtain⟨hd,hl⟩:=hI
    rename_i ds v2 v3 v4
    rw [Tp] at hl ⊢
    obtain⟨ds2,v3',v4',t1,t2,t3⟩:=turn i ds v3 v4 (by lia) hd hl
    exact⟨dE ns ds (some (.d (.int (i:Int)))) v3 v4,_,by simp [aq,dE],t1,dN,.mk t2 t3⟩) (.mk (fun d hd=>by cases hd) (by simp))
  obtain⟨hd,hl⟩:=hI
  rename_i ds v2 v3 v4
  refine⟨ds,?_,hd⟩
  have hf:∀W,jM W nI (aq 2) h9 (dE ns [] none none none)=some (.nx (dE ns ds v2 v3 v4)):=fun W=>by
    rw [jN (show nI _=some (bg 0 (min (ns.length:Int) 63).toNat,[],dE ns [] none none none) from dr (n:=min (ns.length:Int) 63) (by simp? [dE]) (by lia) (by lia))]
    exact h1
  unfold dE at hf
  simp only [Qv] at hf
  simp? [k9,xU,hf]
theorem J8(a b:Int)(hb:Bt 4000 b):vk [.d (.int a),.d (.int b)]=some (.d (.int (Qd a b)),[.d (.int a),.d (.int b)]):=by
  have tst:∀x y:Int,ma [some (.d (.int x)),some (.d (.int y))]=some (!(y==0),[some (.d (.int x)),some (.d (.int y))]):=fun x y=>by simp? [ma]
  obtain⟨e0,e',h1,⟨x,y,he,hg,hy⟩,h3⟩:=qS (ft:=ma) (f:=pv) (fun e=>∃x y,e=[some (.d (.int x)),some (.d (.int y))]∧Qd x y=Qd a b∧Bt 4000 y) (AJ 1) (fun e ⟨x,y,he,hg,hy⟩=>by
    subst he
    rw [tst]
    by_cases c:y=0
    · subst c;exact .inl ⟨_,rfl,trivial⟩
    · refine .inr ⟨_,[some (.d (.int y)),some (.d (.int (x.fmod y)))],by rw [beq_false_of_ne c];rfl,by simp? [pv,FU c],⟨y,x.fmod y,rfl,by rw [Al,hg],?_⟩,?_⟩
      · have:=oA x c
        exact Bt.of_le hy (by lia)
      · have:=oA x c
        simpa [AJ] using this) (2 ^ 4200) _ ⟨a,b,rfl,rfl,hb⟩ (yk (m:=4000) (by simpa [AJ,Bt] using hb) (by decide))
  subst he
  rw [tst] at h3
  have h4:=Prod.mk.inj (QO h3)
  have hy0:y=0:=by simpa using h4.1
  subst hy0
  have h5:=h4.2
  subst h5
  have hs:qA (2 ^ 4200) ma pv [some (.d (.int a)),some (.d (.int b))]=some (.nx [some (.d (.int x)),some (.d (.int 0))]):=h1
  have hg':(x.natAbs:Int)=(Qd a b:Int):=by rw [←hg];simp
  simp only [vk,ED,gQ,jU,aJ,je,bf,dh,aS,iC,lp,pj,qk,aE,aw,qV,ae,vC,cc,aj,ac,c9,aA,cB,lq,uG,kP,xO,jY,uA,nB,uB,bC,bx,eO,cu,uc,fK,gP,iw,dm,bW,pM,sP,cn,aF,aq,bT,cz,aO,bv,p9,dZ,eT,cP,eU,hE,g9,gY,gX,eW,eV,eX,dI,eS,mB,eJ,jD,mD,gG,g_,jE,iU,e7,e6,dM,e8,mF,jq,cY,iR,iS,me,dG,dF,ed,gZ,PX, -Qv, -Qk, -QS, -RQ, -Qb, -Qy, -getElem?_pos, -Rh,mw,mv,ml,mj,mq,mr,mn,mx]
  simp? [hs,hg']
theorem Fg(t b:Int)(hb:0 < b)(h:Bt 4000 b):r_ [.d (.int t),.d (.int b)]=some (.d (.tuple [.int (gJ t b).1,.int (gJ t b).2]),[.d (.int t),.d (.int b)]):=by
  have g0:=ye (t:=t) (b:=b) (by lia)
  have g1:(Qd t b:Int)≠0:=by lia
  have g8:Bt 8000 (Qd t b:Int):=(FV (t:=t) (by lia) h).mono (by decide)
  have e:gJ t b=(t.fdiv (Qd t b:Int),b.fdiv (Qd t b:Int)):=by unfold gJ;rw [if_neg (by lia)]
  rw [e]
  simp? [r_,EE,J8 t b h,CK g1 g8]
theorem EH{i:Int}{n:Nat}(h1: -2147483648 < i)(h2:i < 2147483648)(hn:31≤n):Bt n i:=Bt.mono (m:=31) (by unfold Bt;lia) hn
def z7(t b:Int):Prop:=0≤t∧t≤b∧1≤b∧b≤100∧Qd t b=1
theorem B5(n k:Int)(hn:0≤n):∃t b,gr [.d (.int n),.d (.int k)]=some (.d (.tuple [.int t,.int b]),[.d (.int n),.d (.int k)])∧z7 t b:=by
  have b9:Bt 8000 9:=pJ (by decide) (by decide)
  have b100:Bt 8000 100:=pJ (by decide) (by decide)
  have low:∀t b:Int,0 < b→0≤t→t≤b→b≤100→z7 (gJ t b).1 (gJ t b).2:=fun t b hb h0 h1 h2=>by
    obtain⟨r1,r2,r3,r4⟩:=xb hb h0 h1 h2
    exact⟨r1,r2,r3,r4,AC (by lia)⟩
  by_cases c0:k=0
  · subst c0
    obtain⟨x,hx,ha⟩:=pH (xs:=[PyData.tuple [.int 1,.int 2],.tuple [.int 1,.int 3],.tuple [.int 2,.int 3],.tuple [.int 1,.int 1],.tuple [.int 0,.int 1],.tuple [.int 3,.int 4]]) (i:=n % 6) (by lia) (by simp;lia)
    obtain⟨t,b,rfl,hc⟩:∃t b,x=.tuple [.int t,.int b]∧z7 t b:=by
      simp only [Qz,QZ,or_false] at hx
      rcases hx with rfl | rfl | rfl | rfl | rfl | rfl<;>exact⟨_,_,rfl,by unfold z7;decide⟩
    exact⟨t,b,by simp? [gr,j4,a9,ha],hc⟩
  · by_cases c1:k=1
    · subst c1
      have hm:(n / 9) % (2+n % 9 - 1) < 2+n % 9 - 1:=SF _ (by lia)
      have hm0:0≤(n / 9) % (2+n % 9 - 1):=SE _ (by lia)
      refine⟨_,_,?_,low (1+(n / 9) % (2+n % 9 - 1)) (2+n % 9) (by lia) (by lia) (by lia) (by lia)⟩
      have hpos:∀e:En,bB e (.d (.int (n / 9))) (.d (.int (2+n % 9 - 1)))=_:=fun e=>a9 (by lia)
      have hl:=Fg (1+(n / 9) % (2+n % 9 - 1)) (2+n % 9) (by lia) (EH (by lia) (by lia) (by decide))
      simp? [gr,j4,a9,eI,b9,hpos,hl]
    · by_cases c2:k=2
      · subst c2
        have hm:(n / 100) % (1+n % 100+1) < 1+n % 100+1:=SF _ (by lia)
        have hm0:0≤(n / 100) % (1+n % 100+1):=SE _ (by lia)
        refine⟨_,_,?_,low ((n / 100) % (1+n % 100+1)) (1+n % 100) (by lia) (by lia) (by lia) (by lia)⟩
        have hpos:∀e:En,bB e (.d (.int (n / 100))) (.d (.int (1+n % 100+1)))=_:=fun e=>a9 (by lia)
        have hl:=Fg ((n / 100) % (1+n % 100+1)) (1+n % 100) (by lia) (EH (by lia) (by lia) (by decide))
        simp? [gr,j4,a9,eI,b100,hpos,hl]
      · refine⟨1,1,?_,by unfold z7;decide⟩
        simp? [gr,j4,c0,c1,c2]
theorem El(n k:Int):∃r,mK [.d (.int n),.d (.int k)]=some (.d (.int r),[.d (.int n),.d (.int k)])∧0≤r∧r≤1000:=by
  obtain⟨x,hx,ha⟩:=pH (xs:=[PyData.int (n % 7),.int (5+n % 2),.int (n % 1001),.int (1000 - n % 3)]) (i:=k % 4) (by lia) (by simp;lia)
  obtain⟨r,rfl,hr⟩:∃r,x=.int r∧0≤r∧r≤1000:=by
    simp only [Qz,QZ,or_false] at hx
    rcases hx with rfl | rfl | rfl | rfl<;>exact⟨_,rfl,by lia,by lia⟩
  exact⟨r,by simp? [mK,xX,a9,ha],hr⟩
abbrev tE(ds:List Int)(things many shape odds ws:Int)(ts:List l6)(v7 v8 v9 v10 v11 v12:Option Sv):En:=[some (.l (ds.map .int)),some (.d (.int things)),some (.d (.int many)),some (.d (.int shape)),some (.d (.int odds)),some (.d (.int ws)),some (.l (ts.map ci)),v7,v8,v9,v10,v11,v12]
inductive TR (things many shape odds ws:Int) (ts:List l6) (k:Option Sv):En→Prop
  | mk {t ds w8 w9 w10 w11 w12} (hd:kX ds) (ht:t.Ok things):TR things many shape odds ws ts k (tE ds things many shape odds ws (ts++[t]) k w8 w9 w10 w11 w12)
inductive TI (things many a b c:Int) (i:Nat):En→Prop
  | mk {ts ds w7 w8 w9 w10 w11 w12} (hd:kX ds) (hl:ts.length=i) (ht:∀t∈ts,t.Ok things):TI things many a b c i (tE ds things many a b c ts w7 w8 w9 w10 w11 w12)
theorem J9(ds:List Int)(things many shape odds ws:Int)(ts:List l6)(k:Int)(v8 v9 v10 v11 v12:Option Sv)(hd:kX ds)(h2:2≤things)(h12:things≤100)(s0:0≤shape)(s1:shape < 6)(k0:0≤k)(hl:ts.length≤1000):
    ∃e',iY (tE ds things many shape odds ws ts (some (.d (.int k))) v8 v9 v10 v11 v12)=some (.nx e')∧TR things many shape odds ws ts (some (.d (.int k))) e':=by
  obtain⟨n,d1,tn, -, -,hd1⟩:=n_ hd
  obtain⟨m,d2,tm,m0, -,hd2⟩:=n_ hd1
  obtain⟨x,hx,ha⟩:=pH (xs:=[PyData.int (n % things),.int 0,.int (k % things),.int (n % things),.int (n % 2),.int (n % things)]) (i:=shape) s0 (by simp;lia)
  have tp:0 < things:=UF (by decide) h2
  have tq:0 < things - 1:=Int.sub_pos_of_lt (UF (by decide) h2)
  have nt:0≤n % things∧n % things < things:=⟨Cj tp,Ck tp⟩
  have kt:0≤k % things∧k % things < things:=⟨Cj tp,Ck tp⟩
  obtain⟨one,rfl,o0,o1⟩:∃r,x=.int r∧0≤r∧r < things:=by
    simp only [Qz,QZ,or_false] at hx
    rcases hx with rfl | rfl | rfl | rfl | rfl | rfl<;>exact⟨_,rfl,by lia,by lia⟩
  have r0:0≤(n / 12) % (things - 1):=Cj tq
  have r1:(n / 12) % (things - 1) < things - 1:=Ck tq
  have q0:0≤(one+1+(n / 12) % (things - 1)) % things:=Cj tp
  have q1:(one+1+(n / 12) % (things - 1)) % things < things:=Ck tp
  have qn:(one+1+(n / 12) % (things - 1)) % things≠one:=fun z=>by
    by_cases c:one+1+(n / 12) % (things - 1) < things
    · rw [Int.emod_eq_of_lt (by lia) c] at z;lia
    · have e:(one+1+(n / 12) % (things - 1)) % things=(one+1+(n / 12) % (things - 1) - things) % things:=by rw [Int.sub_emod_right]
      rw [e,Int.emod_eq_of_lt (by lia) (by lia)] at z;lia
  obtain⟨t,b,c1,c2,c3,c4,c5,c6⟩:=B5 m odds m0
  obtain⟨w,w1,w2,w3⟩:=El (m / 10007) ws
  have b12:Bt 8000 12:=pJ (by decide) (by decide)
  have b107:Bt 8000 10007:=pJ (by decide) (by decide)
  have g1:∀(e:En) (i:Int),bB e (.d (.int i)) (.d (.int things))=some (.d (.int (i % things))):=fun e i=>a9 tp
  have g2:∀(e:En) (i:Int),bB e (.d (.int i)) (.d (.int (things - 1)))=some (.d (.int (i % (things - 1)))):=fun e i=>a9 tq
  have hlen:ts.length < 1000000:=by lia
  by_cases c:shape=4
  · subst c
    refine⟨tE d2 things many 4 odds ws (ts++[⟨0,1,t,b,w⟩]) (some (.d (.int k))) (some (.d (.int n))) (some (.d (.int 0))) (some (.d (.int 1))) (some (.d (.int m))) (some (.d (.tuple [.int 0,.int 1]))),?_,.mk hd2 ⟨by show(0:Int)≤0;decide,by show(0:Int) < 1;decide,by show(1:Int) < things;lia,c2,c3,c4,c5,w2,w3,c6⟩⟩
    simp? [tE,iY,tn,tm,a9,g1,g2,eI,b12,b107,ha,c1,w1,kf,ci,hlen]
    decide
  · refine⟨tE d2 things many shape odds ws (ts++[⟨min one ((one+1+(n / 12) % (things - 1)) % things),max one ((one+1+(n / 12) % (things - 1)) % things),t,b,w⟩]) (some (.d (.int k))) (some (.d (.int n))) (some (.d (.int one))) (some (.d (.int ((one+1+(n / 12) % (things - 1)) % things)))) (some (.d (.int m))) (some (.d (.tuple [.int (min one ((one+1+(n / 12) % (things - 1)) % things)),.int (max one ((one+1+(n / 12) % (things - 1)) % things))]))),?_,.mk hd2 ⟨by show 0≤min _ _;lia,by show min _ _ < max _ _;lia,by show max _ _ < _;lia,c2,c3,c4,c5,w2,w3,c6⟩⟩
    simp? [tE,iY,tn,tm,a9,g1,g2,eI,b12,b107,ha,c1,w1,kf,ci,hlen,c]
theorem HR(ds:List Int)(things many:Int)(hd:kX ds)(h2:2≤things)(h12:things≤100)(m0:0≤many)(m1:many≤1000):∃(ts:List l6) (ds':List Int),p7 [.l (ds.map .int),.d (.int things),.d (.int many)]=some (.d (.tuple (ts.map ci)),[.l (ds'.map .int),.d (.int things),.d (.int many)])∧kX ds'∧(ts.length:Int)=many∧∀t∈ts,t.Ok things:=by
  obtain⟨n0,d1,t0, -, -,hd1⟩:=n_ hd
  obtain⟨n1,d2,t1, -, -,hd2⟩:=n_ hd1
  obtain⟨n2,d3,t2, -, -,hd3⟩:=n_ hd2
  obtain⟨e',h1,hI⟩:=ke (own:=[]) (g:=aq 7) (f:=iY) (TI things many (n0 % 6) (n1 % 4) (n2 % 4)) (bg 0 many.toNat) 0 (tE d3 things many (n0 % 6) (n1 % 4) (n2 % 4) [] none none none none none none) (fun i x e hx hI=>by
    obtain⟨rfl,hi⟩:=dw hx
    obtain⟨hd',hl,ht⟩:=hI
    rename_i ts ds' w7 w8 w9 w10 w11 w12
    obtain⟨e9,s1,⟨s2,s3⟩⟩:=J9 ds' things many (n0 % 6) (n1 % 4) (n2 % 4) ts (0+(i:Int)) w8 w9 w10 w11 w12 hd' h2 h12 (Cj (by decide)) (Ck (by decide)) (by lia) (by lia)
    exact⟨_,_,rfl,s1,dN,.mk s2 (by simp;lia) fun z hz=>by
      rcases Pv hz with hz | hz
      · exact ht z hz
      · simp at hz;subst hz;exact s3⟩) (.mk hd3 rfl fun t ht=>by cases ht)
  obtain⟨hd',hl,ht⟩:=hI
  rename_i ts ds' w7 w8 w9 w10 w11 w12
  refine⟨ts,ds',?_,hd',by rw [hl,eE];lia,ht⟩
  have hf:∀W,jM W pU (aq 7) iY (tE d3 things many (n0 % 6) (n1 % 4) (n2 % 4) [] none none none none none none)=some (.nx (tE ds' things many (n0 % 6) (n1 % 4) (n2 % 4) ts w7 w8 w9 w10 w11 w12)):=fun W=>by
    rw [jN (show pU _=some (bg 0 many.toNat,[],tE d3 things many (n0 % 6) (n1 % 4) (n2 % 4) [] none none none none none none) from dr (n:=many) (by simp? [tE]) (by lia) (by lia))]
    exact h1
  unfold tE at hf
  simp only [Qv] at hf
  simp? [p7,zV,t0,t1,t2,a9,hf]
abbrev wE(ds:List Int)(most tn things many:Int)(ts:List l6)(way:Int)(ps:List Int)(v8 v9:Option Sv):En:=[some (.l (ds.map .int)),some (.d (.int most)),some (.d (.int tn)),some (.d (.int things)),some (.d (.int many)),some (.d (.tuple (ts.map ci))),some (.d (.int way)),some (.l (ps.map .int)),v8,v9]
inductive WI (most tn things many:Int) (ts:List l6) (way:Int) (i:Nat):En→Prop
  | mk {ps ds w8} (hd:kX ds) (hpl:ps.length=i) (hps:∀p∈ps,0≤p∧p≤20):WI most tn things many ts way i (wE ds most tn things many ts way ps w8 none)
theorem J_(ds:List Int)(most tn:Int)(hd:kX ds)(m0:0≤most)(m1:most≤12)(k0:0≤tn)(k1:tn≤16):∃(W:aR) (ds':List Int),se [.l (ds.map .int),.d (.int most),.d (.int tn)]=some (.d (ao W),[.l (ds'.map .int),.d (.int most),.d (.int tn)])∧kX ds'∧W.Ok∧W.things≤most∧(W.ties.length:Int)≤tn:=by
  obtain⟨n0,d1,t0, -, -,hd1⟩:=n_ hd
  obtain⟨n1,d2,t1, -, -,hd2⟩:=n_ hd1
  have mp:0 < most+1:=Int.lt_add_one_of_le m0
  have kp:0 < tn+1:=Int.lt_add_one_of_le k0
  have g0:∀(e:En),bB e (.d (.int n0)) (.d (.int (most+1)))=some (.d (.int (n0 % (most+1)))):=fun e=>a9 mp
  have g1':∀(e:En),bB e (.d (.int n1)) (.d (.int (tn+1)))=some (.d (.int (n1 % (tn+1)))):=fun e=>a9 kp
  have th0:0≤n0 % (most+1):=Cj mp
  have th1:n0 % (most+1) < most+1:=Ck mp
  have ti0:0≤n1 % (tn+1):=Cj kp
  have ti1:n1 % (tn+1) < tn+1:=Ck kp
  clear mp kp
  generalize n0 % (most+1)=things at th0 th1 g0
  generalize n1 % (tn+1)=tm at ti0 ti1 g1'
  obtain⟨many,hmany,mm,m00,m01⟩:∃many:Int,many=tm*(if decide (1 < things)=true then 1 else 0)∧(1 < things∨many=0)∧0≤many∧many≤tn:=by
    by_cases c:1 < things
    · exact⟨tm,by simp [c],.inl c,ti0,by lia⟩
    · exact⟨0,by simp [c],.inr rfl,by lia,by lia⟩
  have gm:∀e:En,lm e (.d (.int tm)) (.d (.int (if decide (1 < things)=true then 1 else 0)))=some (.d (.int many)):=fun e=>by
    rw [pR (ud (by split<;>decide) (by split<;>decide)),hmany]
  have gi:∀e:En,g1 q_ e [.d (.bool (decide (1 < things)))]=some (.d (.int (if decide (1 < things)=true then 1 else 0))):=fun e=>rfl
  generalize (if decide (1 < things)=true then 1 else 0:Int)=one at gm gi
  obtain⟨ts,d3,t3,hd3,hlen,hts⟩:=HR d2 (max 2 things) many hd2 (by lia) (by lia) m00 (by lia)
  obtain⟨n4,d4,t4, -, -,hd4⟩:=n_ hd3
  obtain⟨e',h1,hI⟩:=ke (own:=[]) (g:=aq 8) (f:=pw) (WI most tn things many ts (n4 % 3)) (bg 0 things.toNat) 0 (wE d4 most tn things many ts (n4 % 3) [] none none) (fun i x e hx hI=>by
    obtain⟨rfl,hi⟩:=dw hx
    obtain⟨hd5,hpl,hps⟩:=hI
    rename_i ps d5 w8
    obtain⟨p1,d6,t6, -, -,hd6⟩:=n_ hd5
    obtain⟨p2,d7,t7, -, -,hd7⟩:=n_ hd6
    obtain⟨z,hz,ha⟩:=pH (xs:=[PyData.int 20,.int (1+p1 % 3),.int (p2 % 21)]) (i:=n4 % 3) (Cj (by decide)) (Ck (k:=3) (by decide))
    obtain⟨p,rfl,hp⟩:∃r,z=.int r∧0≤r∧r≤20:=by
      simp only [Qz,QZ,or_false] at hz
      rcases hz with rfl | rfl | rfl<;>exact⟨_,rfl,by lia,by lia⟩
    refine⟨wE d5 most tn things many ts (n4 % 3) ps (some (.d (.int (0+(i:Int))))) none,wE d7 most tn things many ts (n4 % 3) (ps++[p]) (some (.d (.int (0+(i:Int))))) none,rfl,?_,dN,.mk hd7 (by simp;lia) fun q hq=>by
      rcases Pv hq with hq | hq
      · exact hps q hq
      · simp at hq;subst hq;exact hp⟩
    have hlen:ps.length < 1000000:=by lia
    simp? [wE,pw,t6,t7,a9,ha,hlen]) (.mk hd4 rfl fun p hp=>by cases hp)
  obtain⟨hd5,hpl,hps⟩:=hI
  rename_i ps d5 w8
  have hf:∀W,jM W tR (aq 8) pw (wE d4 most tn things many ts (n4 % 3) [] none none)=some (.nx (wE d5 most tn things many ts (n4 % 3) ps w8 none)):=fun W=>by
    rw [jN (show tR _=some (bg 0 things.toNat,[],wE d4 most tn things many ts (n4 % 3) [] none none) from dr (n:=things) (by simp? [wE]) (by lia) (by lia))]
    exact h1
  obtain⟨p1,d6,t6, -, -,hd6⟩:=n_ hd5
  obtain⟨p2,d7,t7, -, -,hd7⟩:=n_ hd6
  obtain⟨p3,d8,t8, -, -,hd8⟩:=n_ hd7
  have xp:0 < max 1 many:=UF Int.zero_lt_one (Int.le_max_left _ _)
  have gx:∀(e:En),bB e (.d (.int p1)) (.d (.int (max 1 many)))=some (.d (.int (p1 % max 1 many))):=fun e=>a9 xp
  have x0:0≤p1 % max 1 many:=Cj xp
  have x1:p1 % max 1 many < max 1 many:=Ck xp
  obtain⟨z,hz,ha⟩:=pH (xs:=[PyData.int 40,.int (1+p1 % max 1 many),.int (p2 % 41)]) (i:=p3 % 3) (Cj (by decide)) (Ck (k:=3) (by decide))
  obtain⟨asks,rfl,hasks⟩:∃r,z=.int r∧0≤r∧r≤40:=by
    simp only [Qz,QZ,or_false] at hz
    rcases hz with rfl | rfl | rfl<;>exact⟨_,rfl,by lia,by lia⟩
  rw [eE] at hpl
  refine⟨⟨things,ts,ps,asks⟩,d8,?_,hd8,⟨th0,by show things≤12;lia,fun t ht=>?_,by show ts.length≤16;lia,by show(ps.length:Int)=things;lia,hps,hasks.1,hasks.2⟩,by show things≤most;lia,by show(ts.length:Int)≤tn;lia⟩
  · unfold wE at hf
    simp only [Qv] at hf
    simp? [se,EG,t0,t1,g0,g1',gm,gi,t3,t4,a9,hf,t6,t7,t8,gx,ha,ao]
  · rcases mm with c | c
    · have:=hts t ht
      rw [show max 2 things=things by lia] at this
      exact this
    · have:ts=[]:=List.length_eq_zero_iff.mp (by lia)
      subst this;cases ht
theorem sM{W:aR}{asked:List Int}{thing:Int}(h:∀k∈asked,h8 W k)(hl:asked.length≤1000):ie [.d (ao W),.d (.tuple (asked.map .int)),.d (.int thing)]=some (.d (.int (W.many asked thing)),[.d (ao W),.d (.tuple (asked.map .int)),.d (.int thing)]):=by
  let cs:En:=[some (.d (.int thing)),some (.d (ao W))]
  have hc:∀x∈asked.map PyData.int,f_ (cs++[some (.d x)])=some (rj (fun k=>W.has k thing) x,cs++[some (.d x)]):=fun x hx=>by
    obtain⟨k,hk,rfl⟩:=Pw hx
    simp? [rj,cs,f_,ao,fZ (h k hk),ci,aR.has]
  have he:∀x∈asked.map PyData.int,rj (fun k=>W.has k thing) x=true→gh (cs++[some (.d x)])=some (.d (id x),cs++[some (.d x)]):=fun x hx _=>by
    simp? [cs,gh]
  obtain⟨t',hf⟩:=eH (cs:=cs) (ft:=f_) (fe:=gh) (b:=rj (fun k=>W.has k thing)) (y:=id) (asked.map PyData.int) none [] hc he (by simp;lia)
  have hv:=ny (cp:=[(2,"_law_thing"),(0,"_law_web_here")]) (nT:=1) (fi:=oC) (g:=aq 2) (ft:=f_) (fe:=gh) (e:=[some (.d (ao W)),some (.d (.tuple (asked.map PyData.int))),some (.d (.int thing))]) (cs:=cs) (t:=[none]) (t':=[t']) (nK (fa:=ae 1) rfl) rfl rfl hf
  have hlen:(([]++SA id (List.filter (rj (fun k=>W.has k thing)) (asked.map PyData.int))).length:Int)=W.many asked thing:=by
    unfold aR.many
    simp [Ub]
    rfl
  simp only [ie,rD,gQ,jU,aJ,je,bf,dh,aS,iC,lp,pj,qk,aE,aw,qV,ae,vC,cc,aj,ac,c9,aA,cB,lq,uG,kP,xO,jY,uA,nB,uB,bC,bx,eO,cu,uc,fK,gP,iw,dm,bW,pM,sP,cn,aF,aq,bT,cz,aO,bv,p9,dZ,eT,cP,eU,hE,g9,gY,gX,eW,eV,eX,dI,eS,mB,eJ,jD,mD,gG,g_,jE,iU,e7,e6,dM,e8,mF,jq,cY,iR,iS,me,dG,dF,ed,gZ,PX, -Qv, -Qk, -QS, -RQ, -Qb, -Qy, -getElem?_pos, -Rh,mw,mv,ml,mj,mq,mr,mn,mx]
  simp? [hv]
  simpa using hlen
theorem A7{W:aR}(ok:W.Ok){thing:Int}(h0:0≤thing)(h1:thing < W.things):atI (W.pat.map PyData.int) thing=some (.int (W.pat.getD thing.toNat 0)):=uL h0 (by have:=ok.pl;lia)
theorem Fh{W:aR}(ok:W.Ok){asked taken:List Int}{k:Int}(h:∀k∈asked,h8 W k)(hl:asked.length≤1000)(hk:h8 W k):kn [.d (ao W),.d (dB asked taken),.d (.int k)]=some (.d (.bool (W.may asked taken k)),[.d (ao W),.d (dB asked taken),.d (.int k)]):=by
  have tk:=hk.ok ok
  have t0:=tk.o0
  have t1:=tk.o1
  have t2:=tk.o2
  have p1:=A7 ok (thing:=(W.tie k).one) (by lia) (by lia)
  have p2:=A7 ok (thing:=(W.tie k).other) (by lia) (by lia)
  have a1:=sM (W:=W) (asked:=asked) (thing:=(W.tie k).one) h hl
  have a2:=sM (W:=W) (asked:=asked) (thing:=(W.tie k).other) h hl
  rw [bS] at a1 a2 ⊢
  unfold aR.may aR.bears
  by_cases c1:asked.contains k=true
  · simp? [kn,rE,dB,c1]
    simp at c1
    simp [c1]
  · by_cases c2:W.asks≤(asked.length:Int)
    · have c1':k∉asked:=by simpa using c1
      simp? [kn,rE,dB,c1',c2]
    · have c1':k∉asked:=by simpa using c1
      have turn:∀(thing:Int) (v5:Option Sv),ie [.d (.tuple [.int W.things,.tuple (W.ties.map ci),.tuple (W.pat.map .int),.int W.asks]),.d (.tuple (asked.map .int)),.d (.int thing)]=some (.d (.int (W.many asked thing)),[.d (.tuple [.int W.things,.tuple (W.ties.map ci),.tuple (W.pat.map .int),.int W.asks]),.d (.tuple (asked.map .int)),.d (.int thing)])→atI (W.pat.map PyData.int) thing=some (.int (W.pat.getD thing.toNat 0))→
          js [some (.d (.tuple [.int W.things,.tuple (W.ties.map ci),.tuple (W.pat.map .int),.int W.asks])),some (.d (dB asked taken)),some (.d (.int k)),some (.d (.tuple (asked.map .int))),some (.d (.tuple (taken.map .int))),some (.d (.int thing))]=(if (!taken.contains thing&&decide (W.many asked thing < W.pat.getD thing.toNat 0))=true then some (.nx [some (.d (.tuple [.int W.things,.tuple (W.ties.map ci),.tuple (W.pat.map .int),.int W.asks])),some (.d (dB asked taken)),some (.d (.int k)),some (.d (.tuple (asked.map .int))),some (.d (.tuple (taken.map .int))),some (.d (.int thing))]) else some (.rt (.d (.bool false)) [some (.d (.tuple [.int W.things,.tuple (W.ties.map ci),.tuple (W.pat.map .int),.int W.asks])),some (.d (dB asked taken)),some (.d (.int k)),some (.d (.tuple (asked.map .int))),some (.d (.tuple (taken.map .int))),some (.d (.int thing))])):=by
        intro thing v5 ha hp
        by_cases d1:taken.contains thing=true
        · have d1':thing∈taken:=by simpa using d1
          simp? [js,d1']
        · have d1':thing∉taken:=by simpa using d1
          by_cases d2:W.many asked thing < W.pat.getD thing.toNat 0
          · have d2':¬W.pat.getD thing.toNat 0≤W.many asked thing:=by lia
            simp only [Ux] at d2 d2' hp
            simp? [js,d1',ha,hp,d2,d2']
          · have d2':W.pat.getD thing.toNat 0≤W.many asked thing:=by lia
            simp only [Ux] at d2 d2' hp
            simp? [js,d1',ha,hp,d2,d2']
      have u1:=turn (W.tie k).one none a1 p1
      have u2:=turn (W.tie k).other none a2 p2
      have hf:∀Wl,jM Wl yf (aq 5) js [some (.d (.tuple [.int W.things,.tuple (W.ties.map ci),.tuple (W.pat.map .int),.int W.asks])),some (.d (dB asked taken)),some (.d (.int k)),some (.d (.tuple (asked.map .int))),some (.d (.tuple (taken.map .int))),none]=lH [] (aq 5) js [.int (W.tie k).one,.int (W.tie k).other] [some (.d (.tuple [.int W.things,.tuple (W.ties.map ci),.tuple (W.pat.map .int),.int W.asks])),some (.d (dB asked taken)),some (.d (.int k)),some (.d (.tuple (asked.map .int))),some (.d (.tuple (taken.map .int))),none]:=fun Wl=>by
        rw [jN]
        exact nK (by simp? [fZ hk,ci])
      unfold dB at u1 u2 hf ⊢
      by_cases e1:(!taken.contains (W.tie k).one&&decide (W.many asked (W.tie k).one < W.pat.getD (W.tie k).one.toNat 0))=true
      · by_cases e2:(!taken.contains (W.tie k).other&&decide (W.many asked (W.tie k).other < W.pat.getD (W.tie k).other.toNat 0))=true
        · rw [if_pos e1] at u1
          rw [if_pos e2] at u2
          rw [e1,e2]
          simp only [kn,rE,gQ,jU,aJ,je,bf,dh,aS,iC,lp,pj,qk,aE,aw,qV,ae,vC,cc,aj,ac,c9,aA,cB,lq,uG,kP,xO,jY,uA,nB,uB,bC,bx,eO,cu,uc,fK,gP,iw,dm,bW,pM,sP,cn,aF,aq,bT,cz,aO,bv,p9,dZ,eT,cP,eU,hE,g9,gY,gX,eW,eV,eX,dI,eS,mB,eJ,jD,mD,gG,g_,jE,iU,e7,e6,dM,e8,mF,jq,cY,iR,iS,me,dG,dF,ed,gZ,PX, -Qv, -Qk, -QS, -RQ, -Qb, -Qy, -getElem?_pos, -Rh,mw,mv,ml,mj,mq,mr,mn,mx]
          simp? [c1',c2,hf,lH,u1,u2,dN]
        · rw [if_pos e1] at u1
          rw [if_neg e2] at u2
          rw [e1,Bool.not_eq_true _ |>.mp e2]
          simp only [kn,rE,gQ,jU,aJ,je,bf,dh,aS,iC,lp,pj,qk,aE,aw,qV,ae,vC,cc,aj,ac,c9,aA,cB,lq,uG,kP,xO,jY,uA,nB,uB,bC,bx,eO,cu,uc,fK,gP,iw,dm,bW,pM,sP,cn,aF,aq,bT,cz,aO,bv,p9,dZ,eT,cP,eU,hE,g9,gY,gX,eW,eV,eX,dI,eS,mB,eJ,jD,mD,gG,g_,jE,iU,e7,e6,dM,e8,mF,jq,cY,iR,iS,me,dG,dF,ed,gZ,PX, -Qv, -Qk, -QS, -RQ, -Qb, -Qy, -getElem?_pos, -Rh,mw,mv,ml,mj,mq,mr,mn,mx]
          simp? [c1',c2,hf,lH,u1,u2,dN]
      · rw [if_neg e1] at u1
        rw [Bool.not_eq_true _ |>.mp e1]
        simp only [kn,rE,gQ,jU,aJ,je,bf,dh,aS,iC,lp,pj,qk,aE,aw,qV,ae,vC,cc,aj,ac,c9,aA,cB,lq,uG,kP,xO,jY,uA,nB,uB,bC,bx,eO,cu,uc,fK,gP,iw,dm,bW,pM,sP,cn,aF,aq,bT,cz,aO,bv,p9,dZ,eT,cP,eU,hE,g9,gY,gX,eW,eV,eX,dI,eS,mB,eJ,jD,mD,gG,g_,jE,iU,e7,e6,dM,e8,mF,jq,cY,iR,iS,me,dG,dF,ed,gZ,PX, -Qv, -Qk, -QS, -RQ, -Qb, -Qy, -getElem?_pos, -Rh,mw,mv,ml,mj,mq,mr,mn,mx]
        simp? [c1',c2,hf,lH,u1,dN]
theorem B4{W:aR}{asked taken:List Int}{k:Int}(truth:Bool)(hk:h8 W k)(h1:asked.length < 60)(h2:taken.length < 60):iz [.d (ao W),.d (dB asked taken),.d (.int k),.d (.bool truth)]=some (.d (dB (aR.askd asked k) (W.took taken k truth)),[.d (ao W),.d (dB asked taken),.d (.int k),.d (.bool truth)]):=by
  have s1:∀e,g1 fF e [.d (.tuple (asked.map PyData.int++[.int k]))]=some (.l ((jn (asked++[k])).map .int)):=fun e=>by
    have:=jF (e:=e) (ns:=asked++[k]) (by simp;lia)
    simpa using this
  have s2:∀e,g1 fF e [.d (.tuple (taken.map PyData.int++[.int (W.tie k).one,.int (W.tie k).other]))]=some (.l ((jn (taken++[(W.tie k).one,(W.tie k).other])).map .int)):=fun e=>by
    have:=jF (e:=e) (ns:=taken++[(W.tie k).one,(W.tie k).other]) (by simp;lia)
    simpa using this
  have g1':∀e,bi e (.d (.tuple (asked.map .int))) (.d (.tuple [.int k]))=some (.d (.tuple (asked.map .int++[.int k]))):=fun e=>kf (by simp;lia)
  have g2':∀e,bi e (.d (.tuple (taken.map .int))) (.d (.tuple [.int (W.tie k).one,.int (W.tie k).other]))=some (.d (.tuple (taken.map .int++[.int (W.tie k).one,.int (W.tie k).other]))):=fun e=>kf (by simp;lia)
  rw [bS]
  cases truth with
  | true=>simp? [iz,pI,dB,fZ hk,ci,g1',g2',s1,s2,aR.askd,aR.took]
  | false=>simp? [iz,pI,dB,g1',s1,aR.askd,aR.took]
theorem zF{W:aR}(ok:W.Ok){asked taken:List Int}(h:∀k∈asked,h8 W k)(hl:asked.length≤1000):i9 [.d (ao W),.d (dB asked taken)]=some (.l ((W.can asked taken).map .int),[.d (ao W),.d (dB asked taken)]):=by
  let cs:En:=[some (.d (ao W)),some (.d (dB asked taken))]
  have wl:=ok.len
  have hc:∀x∈bg 0 W.ties.length,f9 (cs++[some (.d x)])=some (rj (fun k=>W.may asked taken k) x,cs++[some (.d x)]):=fun x hx=>by
    obtain⟨i,hi⟩:=SY hx
    obtain⟨rfl,hi⟩:=dw hi
    have:=Fh ok (taken:=taken) h hl (k:=0+(i:Int)) ⟨by lia,by lia⟩
    simp only [Ts] at this
    simp? [rj,cs,f9,this]
  have he:∀x∈bg 0 W.ties.length,rj (fun k=>W.may asked taken k) x=true→gf (cs++[some (.d x)])=some (.d (id x),cs++[some (.d x)]):=fun x hx _=>by
    simp? [cs,gf]
  obtain⟨t',hf⟩:=eH (cs:=cs) (ft:=f9) (fe:=gf) (b:=rj (fun k=>W.may asked taken k)) (y:=id) (bg 0 W.ties.length) none [] hc he (by rw [eE];simp;lia)
  have hv:=ny (cp:=[(0,"_law_web_here"),(1,"_law_stand")]) (nT:=1) (fi:=kg) (g:=aq 2) (ft:=f9) (fe:=gf) (e:=[some (.d (ao W)),some (.d (dB asked taken))]) (cs:=cs) (t:=[none]) (t':=[t']) (show kg [some (.d (ao W)),some (.d (dB asked taken))]=some (bg 0 W.ties.length,[],[some (.d (ao W)),some (.d (dB asked taken))]) from dr (n:=(W.ties.length:Int)) (by rw [bS];simp? [PX]) (by lia) (by lia)) rfl rfl hf
  rw [QS,List.map_id,nY] at hv
  simp only [i9,rC,gQ,jU,aJ,je,bf,dh,aS,iC,lp,pj,qk,aE,aw,qV,ae,vC,cc,aj,ac,c9,aA,cB,lq,uG,kP,xO,jY,uA,nB,uB,bC,bx,eO,cu,uc,fK,gP,iw,dm,bW,pM,sP,cn,aF,aq,bT,cz,aO,bv,p9,dZ,eT,cP,eU,hE,g9,gY,gX,eW,eV,eX,dI,eS,mB,eJ,jD,mD,gG,g_,jE,iU,e7,e6,dM,e8,mF,jq,cY,iR,iS,me,dG,dF,ed,gZ,PX, -Qv, -Qk, -QS, -RQ, -Qb, -Qy, -getElem?_pos, -Rh,mw,mv,ml,mj,mq,mr,mn,mx]
  simp? [hv]
theorem kO{W:aR}{k:Int}(hk:h8 W k):cw [.d (ao W),.d (.int k)]=some (.d (.tuple [.int (W.tie k).one,.int (W.tie k).other]),[.d (ao W),.d (.int k)]):=by
  rw [bS]
  simp? [cw,oq,fZ hk,ci]
theorem vY{W:aR}{asked:List Int}{thing:Int}(h:∀k∈asked,h8 W k)(hl:asked.length≤1000):gw [.d (ao W),.d (.tuple (asked.map .int)),.d (.int thing)]=some (.d (.int (W.many asked thing)),[.d (ao W),.d (.tuple (asked.map .int)),.d (.int thing)]):=by
  let cs:En:=[some (.d (.int thing)),some (.d (ao W))]
  have hc:∀x∈asked.map PyData.int,d_ (cs++[some (.d x)])=some (rj (fun k=>W.has k thing) x,cs++[some (.d x)]):=fun x hx=>by
    obtain⟨k,hk,rfl⟩:=Pw hx
    have t:=kO (h k hk)
    simp? [rj,cs,d_,t,aR.has]
  have he:∀x∈asked.map PyData.int,rj (fun k=>W.has k thing) x=true→ec (cs++[some (.d x)])=some (.d (id x),cs++[some (.d x)]):=fun x hx _=>by
    simp? [cs,ec]
  obtain⟨t',hf⟩:=eH (cs:=cs) (ft:=d_) (fe:=ec) (b:=rj (fun k=>W.has k thing)) (y:=id) (asked.map PyData.int) none [] hc he (by simp;lia)
  have hv:=ny (cp:=[(2,"thing"),(0,"web")]) (nT:=1) (fi:=lu) (g:=aq 2) (ft:=d_) (fe:=ec) (e:=[some (.d (ao W)),some (.d (.tuple (asked.map PyData.int))),some (.d (.int thing))]) (cs:=cs) (t:=[none]) (t':=[t']) (nK (fa:=ae 1) rfl) rfl rfl hf
  have hlen:(([]++SA id (List.filter (rj (fun k=>W.has k thing)) (asked.map PyData.int))).length:Int)=W.many asked thing:=by
    unfold aR.many
    simp [Ub]
    rfl
  simp only [gw,oo,gQ,jU,aJ,je,bf,dh,aS,iC,lp,pj,qk,aE,aw,qV,ae,vC,cc,aj,ac,c9,aA,cB,lq,uG,kP,xO,jY,uA,nB,uB,bC,bx,eO,cu,uc,fK,gP,iw,dm,bW,pM,sP,cn,aF,aq,bT,cz,aO,bv,p9,dZ,eT,cP,eU,hE,g9,gY,gX,eW,eV,eX,dI,eS,mB,eJ,jD,mD,gG,g_,jE,iU,e7,e6,dM,e8,mF,jq,cY,iR,iS,me,dG,dF,ed,gZ,PX, -Qv, -Qk, -QS, -RQ, -Qb, -Qy, -getElem?_pos, -Rh,mw,mv,ml,mj,mq,mr,mn,mx]
  simp? [hv]
  simpa using hlen
theorem Dy{W:aR}(ok:W.Ok){thing:Int}(h0:0≤thing)(h1:thing < W.things):atI (W.pat.map PyData.int) thing=some (.int (W.pat.getD thing.toNat 0)):=uL h0 (by have:=ok.pl;lia)
theorem yO{W:aR}(ok:W.Ok){asked taken:List Int}{thing:Int}(h:∀k∈asked,h8 W k)(hl:asked.length≤1000)(h0:0≤thing)(h1:thing < W.things):bZ [.d (ao W),.d (dB asked taken),.d (.int thing)]=some (.d (.bool (W.bears asked taken thing)),[.d (ao W),.d (dB asked taken),.d (.int thing)]):=by
  have a:=vY (thing:=thing) h hl
  have p:=Dy ok h0 h1
  have g2:∀e,dC e (.d (ao W)) (.d (.int 2))=some (.d (.tuple (W.pat.map .int))):=fun e=>by rw [bS,eJ,iR];rfl
  unfold aR.bears
  generalize W.pat.getD thing.toNat 0=q at p ⊢
  by_cases c:taken.contains thing=true
  · simp only [c]
    simp at c
    simp? [bZ,fC,dB,c]
  · have c':taken.contains thing=false:=by simpa using c
    simp only [c']
    simp at c
    unfold dB at a ⊢
    simp? [bZ,fC,c,a,g2,p]
theorem sO{W:aR}(ok:W.Ok){asked taken:List Int}{k:Int}(h:∀k∈asked,h8 W k)(hl:asked.length≤1000)(hk:h8 W k):dO [.d (ao W),.d (dB asked taken),.d (.int k)]=some (.d (.bool (W.may asked taken k)),[.d (ao W),.d (dB asked taken),.d (.int k)]):=by
  have o:=hk.ok ok
  have o0:=o.o0;have o1:=o.o1;have o2:=o.o2
  have b1:=yO ok (taken:=taken) (thing:=(W.tie k).one) h hl (by lia) (by lia)
  have b2:=yO ok (taken:=taken) (thing:=(W.tie k).other) h hl (by lia) (by lia)
  have th:=kO hk
  have g3:∀e,dC e (.d (ao W)) (.d (.int 3))=some (.d (.int W.asks)):=fun e=>by rw [bS,eJ,iS];rfl
  unfold aR.may
  by_cases c1:asked.contains k=true
  · simp only [c1]
    simp at c1
    simp? [dO,kU,dB,c1]
  · have c1':asked.contains k=false:=by simpa using c1
    simp at c1
    by_cases c2:W.asks≤(asked.length:Int)
    · simp only [c1',c2]
      simp? [dO,kU,dB,c1,c2,g3]
    · simp only [c1',c2]
      have hc:cf [(0,"web"),(1,"stand")] 1 oF (aq 2) gS kd [some (.d (ao W)),some (.d (dB asked taken)),some (.d (.int k)),some (.d (.tuple (asked.map .int)))]=some (.l [.bool (W.bears asked taken (W.tie k).one),.bool (W.bears asked taken (W.tie k).other)],[some (.d (ao W)),some (.d (dB asked taken)),some (.d (.int k)),some (.d (.tuple (asked.map .int)))]):=by
        refine qQ (items:=[.int (W.tie k).one,.int (W.tie k).other]) (eo:=[some (.d (ao W)),some (.d (dB asked taken)),some (.d (.int (W.tie k).other))]) (nK (by simp? [th])) ?_ rfl
        have hi:tS [(0,"web"),(1,"stand")] 1 [some (.d (ao W)),some (.d (dB asked taken)),some (.d (.int k)),some (.d (.tuple (asked.map .int)))]=[some (.d (ao W)),some (.d (dB asked taken)),none]:=rfl
        rw [hi]
        simp? [gc,gS,kd,b1,b2]
      have ga:∀e,g1 (i7 uY) e [.l [.bool (W.bears asked taken (W.tie k).one),.bool (W.bears asked taken (W.tie k).other)]]=some (.d (.bool (W.bears asked taken (W.tie k).one&&W.bears asked taken (W.tie k).other))):=fun e=>by
        simp [g1,i7,cU,uY,tu]
      unfold dB at hc ⊢
      simp? [dO,kU,c1,c2,g3,hc,ga]
theorem qN{W:aR}{asked taken:List Int}{k:Int}(truth:Bool)(hk:h8 W k)(h1:asked.length < 60)(h2:taken.length < 60):b6 [.d (ao W),.d (dB asked taken),.d (.int k),.d (.bool truth)]=some (.d (dB (aR.askd asked k) (W.took taken k truth)),[.d (ao W),.d (dB asked taken),.d (.int k),.d (.bool truth)]):=by
  have s1:∀e,g1 fF e [.d (.tuple (asked.map PyData.int++[.int k]))]=some (.l ((jn (asked++[k])).map .int)):=fun e=>by
    have:=jF (e:=e) (ns:=asked++[k]) (by simp;lia)
    simpa using this
  have s2:∀e,g1 fF e [.d (.tuple (taken.map PyData.int++[.int (W.tie k).one,.int (W.tie k).other]))]=some (.l ((jn (taken++[(W.tie k).one,(W.tie k).other])).map .int)):=fun e=>by
    have:=jF (e:=e) (ns:=taken++[(W.tie k).one,(W.tie k).other]) (by simp;lia)
    simpa using this
  have g1':∀e,bi e (.d (.tuple (asked.map .int))) (.d (.tuple [.int k]))=some (.d (.tuple (asked.map .int++[.int k]))):=fun e=>kf (by simp;lia)
  have g2':∀e,bi e (.d (.tuple (taken.map .int))) (.d (.tuple [.int (W.tie k).one,.int (W.tie k).other]))=some (.d (.tuple (taken.map .int++[.int (W.tie k).one,.int (W.tie k).other]))):=fun e=>kf (by simp;lia)
  have th:=kO hk
  cases truth with
  | true=>simp? [b6,iu,dB,th,g1',g2',s1,s2,aR.askd,aR.took]
  | false=>simp? [b6,iu,dB,g1',s1,aR.askd,aR.took]
structure LO (W:aR) (asked taken:List Int):Prop where
  inw:∀k∈asked,h8 W k
  sa:asked.Pairwise (· ≤·)
  na:asked.Nodup
  ak:(asked.length:Int)≤W.asks
  bd:∀t:Int,0≤t→t < W.things→W.many asked t≤W.pat.getD t.toNat 0
  st:taken.Pairwise (· ≤·)
  nt:taken.Nodup
  th:∀t∈taken,0≤t∧t < W.things
  ev:(taken.length:Int) % 2=0
  tt:∀t∈taken,0 < W.many asked t
noncomputable def l0(th ak:Int):Str:=Pz "things"++Pz " "++(nS th++Pz " "++(Pz "asks"++Pz " "++nS ak))++Pz "\n"
noncomputable def lP(p:Int):Str:=Pz "thing"++Pz " "++nS p++Pz "\n"
noncomputable def fW(t:l6):Str:=RJ++nS t.top++Pz "/"++nS t.bot
noncomputable def lT(t:l6):Str:=Pz "tie"++Pz " "++(nS t.one++Pz " "++(nS t.other++Pz " "++(fW t++Pz " "++nS t.worth)))++Pz "\n"
noncomputable def LU(W:aR):List Str:=[l0 W.things W.asks]++W.pat.map lP++W.ties.map lT
structure Me (t:l6):Prop where
  a:0≤t.one∧t.one≤1000
  b:0≤t.other∧t.other≤1000
  c:0≤t.top∧t.top≤1000
  d:0≤t.bot∧t.bot≤1000
  e:0≤t.worth∧t.worth≤1000
theorem B7(s:Str)(ys:List Str):Txt.join s ys=Qx s ys:=StrLaws.glued_eq_join s ys
theorem Ah{e:En}{s:Str}{ys:List Str}(h1:s.length≤16)(h2:(ys.map (·.length)).sum+ys.length≤1048576):oB e (.d (.str s)) (.l (ys.map .str))=some (.d (.str (Qx s ys))):=by
  have:∀l:List Str,vT (l.map .str)=some l:=fun l=>by
    induction l with
    | nil=>rfl
    | cons a r ih=>simp [vT,ih]
  simp only [oB,bJ,cU,Qb,this]
  rw [if_pos ⟨h1,h2⟩,B7]
noncomputable def wd:PD→Str
  | .int i=>nS i
  | .str x=>x
  | _=>RJ
structure Wd (d:PD):Prop where
  go:∀e:En,g1 eY e [.d d]=some (.d (.str (wd d)))
  ln:(wd d).length≤20
theorem Wd.int{i:Int}(h0:0≤i)(h1:i≤1000):Wd (.int i):=⟨fun e=>Aj h0 h1,by have:=GI h0 h1;show(nS i).length≤20;lia⟩
theorem Wd.str{x:Str}(h:x.length≤20):Wd (.str x):=⟨fun e=>Ak,h⟩
def j0(r:List (Int × Bool)):List Int:=(r.filter (·.2)).map (·.1)
def kw(W:aR)(r:List (Int × Bool)):Int:=((j0 r).map fun k=>(W.tie k).worth).sum
theorem t9{r:List (Int × Bool)}{k:Int}(h:k∈j0 r):∃p∈r,p.1=k:=by
  unfold j0 at h
  obtain⟨p,hp,e⟩:=Pw h
  exact⟨p,(RV.mp hp).1,e⟩
theorem t5{r:List (Int × Bool)}:(j0 r).length≤r.length:=by
  unfold j0
  rw [Qh]
  exact List.length_filter_le _ _
theorem sum_le{W:aR}(ok:W.Ok):∀(ks:List Int),(∀k∈ks,h8 W k)→0≤(ks.map fun k=>(W.tie k).worth).sum∧(ks.map fun k=>(W.tie k).worth).sum≤1000*(ks.length:Int)
  | [],_=>by simp
  | k::ks,h=>by
    obtain⟨a,b⟩:=sum_le ok ks fun k hk=>h k (by simp [hk])
    have o:=(h k (by simp)).ok ok
    have:=o.w0;have:=o.w1
    simp only [Qk,List.sum_cons,Ro]
    lia
theorem ES{W:aR}(ok:W.Ok){r:List (Int × Bool)}(hr:r.length≤16∧∀p∈r,h8 W p.1):0≤kw W r∧kw W r≤16000:=by
  obtain⟨a,b⟩:=sum_le ok (j0 r) fun k hk=>by
    obtain⟨p,hp,rfl⟩:=t9 hk
    exact hr.2 p hp
  have:=t5 (r:=r)
  unfold kw
  lia
def q5:PD→PD
  | .tuple [a,_]=>a
  | _=>.none
def rq:PD→PD
  | .tuple [_,b]=>b
  | _=>.none
def boolD:PD→Bool
  | .bool b=>b
  | _=>false
def oG:PD→Int
  | .int i=>i
  | _=>0
theorem tZ{r:List (Int × Bool)}:((r.map dR).filter fun d=>boolD (rq d)).map q5=(j0 r).map .int:=by
  induction r with
  | nil=>rfl
  | cons p r ih=>
    obtain⟨a,b⟩:=p
    unfold j0 at ih ⊢
    cases b
    · exact ih
    · exact congrArg (PyData.int a::·) ih
theorem Gj{W:aR}{r:List (Int × Bool)}:((r.map dR).filter fun d=>boolD (rq d)).map (fun d=>PyData.int (W.tie (oG (q5 d))).worth)=((j0 r).map fun k=>(W.tie k).worth).map .int:=by
  have:((r.map dR).filter fun d=>boolD (rq d)).map (fun d=>PyData.int (W.tie (oG (q5 d))).worth)=(((r.map dR).filter fun d=>boolD (rq d)).map q5).map fun d=>PyData.int (W.tie (oG d)).worth:=by rw [Rq];rfl
  rw [this,tZ,Rq,Rq]
  rfl
theorem sN{r:List (Int × Bool)}(hl:r.length≤1000):fL [.d (.tuple (r.map dR))]=some (.d (.tuple ((j0 r).map .int)),[.d (.tuple (r.map dR))]):=by
  obtain⟨t',e1,hf⟩:=fD (cs:=[]) (g:=cn (aF (aq 0) (aF (aq 1) bT))) (ft:=j8) (fe:=kc) (b:=fun d=>boolD (rq d)) (y:=q5) (u:=fun d=>[some (.d (q5 d)),some (.d (rq d))]) 2 (r.map dR) [none,none] [] rfl (fun x hx t ht=>by
    obtain⟨p,hp,rfl⟩:=Pw hx
    match t,ht with
    | [a1,a2],_=>rfl) (fun x hx=>rfl) (fun x hx=>by
    obtain⟨p,hp,rfl⟩:=Pw hx
    rfl) (fun x hx _=>by
    obtain⟨p,hp,rfl⟩:=Pw hx
    rfl) (by simp;lia)
  rw [QS,tZ] at hf
  have hv:cf [] 2 oE (cn (aF (aq 0) (aF (aq 1) bT))) j8 kc [some (.d (.tuple (r.map dR)))]=some (.l ((j0 r).map .int),[some (.d (.tuple (r.map dR)))]):=ip (own:=[]) rfl hf
  generalize (j0 r).map PyData.int=A at*
  generalize r.map dR=B at*
  simp? [fL,rH,hv]
theorem JW{e:En}{ws:List Int}:g1 (i7 rY) e [.l (ws.map .int)]=some (.d (.int ws.sum)):=by simp [g1,i7,cU,rY,nL]
theorem uw{W:aR}{r:List (Int × Bool)}(hr:r.length≤16∧∀p∈r,h8 W p.1):ff [.d (ao W),.d (.tuple (r.map dR))]=some (.d (.int (kw W r)),[.d (ao W),.d (.tuple (r.map dR))]):=by
  have g1':∀e:En,dC e (.d (ao W)) (.d (.int 1))=some (.d (.tuple (W.ties.map ci))):=fun e=>by rw [bS,eJ,cY];rfl
  have kl:=t5 (r:=r)
  have tk:=sN (r:=r) (by lia)
  obtain⟨t1,hf1⟩:=eH (cs:=[some (.d (ao W))]) (ft:=gS) (fe:=eR) (b:=fun _=>true) (y:=fun x=>.int (W.tie (oG x)).worth) ((j0 r).map .int) none [] (fun x hx=>rfl) (fun x hx _=>by
    obtain⟨k,hk',rfl⟩:=Pw hx
    obtain⟨p,hp,rfl⟩:=t9 hk'
    have ai:=fZ (W:=W) (k:=p.1) (hr.2 p hp)
    show eR [some (.d (ao W)),some (.d (.int p.1))]=some (.d (.int (W.tie p.1).worth),[some (.d (ao W)),some (.d (.int p.1))])
    unfold ci at ai g1'
    generalize (W.tie p.1).worth=w at*
    generalize (W.ties.map fun t=>PyData.tuple [.int t.one,.int t.other,.tuple [.int t.top,.int t.bot],.int t.worth])=TT at*
    simp? [eR,g1',ai]) (by simp;lia)
  rw [QS,UG.mpr (fun _ _=>rfl),show(((j0 r).map PyData.int).map fun x=>PyData.int (W.tie (oG x)).worth)=((j0 r).map fun k=>(W.tie k).worth).map .int by rw [Rq,Rq];rfl] at hf1
  have hi:km [some (.d (ao W)),some (.d (.tuple (r.map dR)))]=some ((j0 r).map .int,[],[some (.d (ao W)),some (.d (.tuple (r.map dR)))]):=nK (by
    generalize (j0 r).map PyData.int=A at*
    simp? [tk])
  have hv:=qQ (cp:=[(0,"web")]) (nT:=1) (g:=aq 1) hi hf1 rfl
  have s:=fun e:En=>JW (e:=e) (ws:=(j0 r).map fun k=>(W.tie k).worth)
  unfold kw
  generalize ((j0 r).map fun k=>(W.tie k).worth).sum=w at*
  generalize ((j0 r).map fun k=>(W.tie k).worth).map PyData.int=A at*
  simp? [ff,l9,hv,s]
noncomputable def Lk(k:Int):Str:=Pz "ask "++nS k
theorem Je:∀k:Fin 16,QI (Lk (k.val:Int)) none (some 4)=Pz "ask ":=by decide+kernel
theorem Jf:∀k:Fin 16,QI (Lk (k.val:Int)) (some 4) none=nS (k.val:Int):=by decide+kernel
theorem Jg:∀k:Fin 16,Rr (Lk (k.val:Int)) (Pz " ")=[Pz "ask",nS (k.val:Int)]:=by decide+kernel
theorem Jh:∀k:Fin 16,RY (nS (k.val:Int))=true∧(nS (k.val:Int)).length≤4∧Tq (nS (k.val:Int))=some (k.val:Int):=by decide+kernel
theorem Ji:∀k:Fin 16,∀x∈["yes","no","may","kept","back","best","bound"],Lk (k.val:Int)≠Pz x:=by decide+kernel
theorem p5{P:Int→Prop}(h:∀k:Fin 16,P (k.val:Int)){k:Int}(h0:0≤k)(h1:k < 16):P k:=by
  have:=h ⟨k.toNat,by lia⟩
  rw [show(((⟨k.toNat,by lia⟩:Fin 16).val:Nat):Int)=k by simp;lia] at this
  exact this
def eP(W:aR):Std→List (Int × Bool)→Std
  | s,[]=>s
  | s,p::r=>eP W (nxt W s p.1 p.2) r
def lj(W:aR):Std→List (Int × Bool)→Prop
  | _,[]=>True
  | s,p::r=>h8 W p.1∧p.1∉s.1∧lj W (nxt W s p.1 p.2) r
theorem lj.snoc{W:aR}{k:Int}{b:Bool}(hk:h8 W k):∀{r:List (Int × Bool)} {s:Std},lj W s r→k∉(eP W s r).1→lj W s (r++[(k,b)])
  | [],s,_,h=>⟨hk,h,trivial⟩
  | p::r,s,h,n=>⟨h.1,h.2.1,lj.snoc hk h.2.2 n⟩
theorem lj.take{W:aR}:∀{r:List (Int × Bool)} {s:Std} (n:Nat),lj W s r→lj W s (r.take n)
  | _,_,0,_=>by rw [List.take_zero];trivial
  | [],_,n+1,h=>by rw [List.take_nil];exact h
  | p::r,_,n+1,h=>⟨h.1,h.2.1,lj.take n h.2.2⟩
theorem lj.st{W:aR}(ok:W.Ok):∀{r:List (Int × Bool)} {s:Std},iQ W s→lj W s r→iQ W (eP W s r)
  | [],_,h,_=>h
  | p::r,s,h,q=>lj.st (r:=r) (s:=nxt W s p.1 p.2) ok (h.nxt p.2 ok q.1 q.2.1) q.2.2
theorem yL{W:aR}:∀(r:List (Int × Bool)) (s:Std),(eP W s r).1.length=s.1.length+r.length
  | [],_=>rfl
  | p::r,s=>by
    show(eP W (nxt W s p.1 p.2) r).1.length=_
    rw [yL r]
    show(aR.askd s.1 p.1).length+r.length=_
    rw [pG,Ro];lia
theorem lj.inw{W:aR}:∀{r:List (Int × Bool)} {s:Std},lj W s r→∀p∈r,h8 W p.1
  | [],_,_,p,hp=>by cases hp
  | q::r,_,h,p,hp=>by
    rcases Px hp with rfl | hp
    · exact h.1
    · exact lj.inw h.2.2 p hp
theorem lj.len{W:aR}(ok:W.Ok){r:List (Int × Bool)}(h:lj W ([],[]) r):r.length≤16:=by
  have h1:=(h.st ok (iQ.first W)).len
  rw [yL] at h1
  have:=ok.len
  simp at h1
  lia
theorem vS{W:aR}(ok:W.Ok){s:Std}(h:iQ W s):s.1.length < 60∧s.2.length < 60:=by
  have:=h.len;have:=h.tk;have:=ok.len
  lia
theorem qr{W:aR}(ok:W.Ok){m:FM}(hm:∀(s:Std) (k:Int) (b:Bool),iQ W s→h8 W k→m [.d (ao W),.d (dB s.1 s.2),.d (.int k),.d (.bool b)]=some (.d (dB (nxt W s k b).1 (nxt W s k b).2),[.d (ao W),.d (dB s.1 s.2),.d (.int k),.d (.bool b)])){own:jZ}{x1:Option Sv}
    (kp:∀a c d,keeps own [some (.d (ao W)),x1,a,c,d]):∀(r:List (Int × Bool)) (s:Std) (a b:Option Sv),iQ W s→lj W s r→
    ∃a' b',lH own (cn (aF (aq 3) (aF (aq 4) bT))) (aS 2 (cB 4 m (ac (ae 0) (ac (ae 2) (ac (ae 3) (ac (ae 4) aj)))))) (r.map dR) [some (.d (ao W)),x1,some (.d (dB s.1 s.2)),a,b]=some (.nx [some (.d (ao W)),x1,some (.d (dB (eP W s r).1 (eP W s r).2)),a',b'])
  | [],s,a,b,_,_=>⟨a,b,rfl⟩
  | p::r,s,a,b,hs,hr=>by
    have h1:=hm s p.1 p.2 hs hr.1
    obtain⟨a',b',ih⟩:=qr ok hm kp r (nxt W s p.1 p.2) (some (.d (.int p.1))) (some (.d (.bool p.2))) (hs.nxt p.2 ok hr.1 hr.2.1) hr.2.2
    refine⟨a',b',?_⟩
    have k1:=kp (some (.d (dB (nxt W s p.1 p.2).1 (nxt W s p.1 p.2).2))) (some (.d (.int p.1))) (some (.d (.bool p.2)))
    simp only [Qk,lH]
    generalize ao W=w at*
    generalize dB s.1 s.2=d at*
    generalize dB (nxt W s p.1 p.2).1 (nxt W s p.1 p.2).2=d2 at*
    simp? [dR,h1,k1]
    exact ih
theorem kN{W:aR}(ok:W.Ok){r:List (Int × Bool)}(hr:lj W ([],[]) r):b7 [.d (ao W),.d (.tuple (r.map dR))]=some (.d (dB (eP W ([],[]) r).1 (eP W ([],[]) r).2),[.d (ao W),.d (.tuple (r.map dR))]):=by
  obtain⟨a,b,h⟩:=qr ok (m:=b6) (own:=[]) (x1:=some (.d (.tuple (r.map dR)))) (fun s k b hs hk=>qN b hk (vS ok hs).1 (vS ok hs).2) (fun _ _ _=>dN) r ([],[]) none none (iQ.first W) hr
  have hf:∀Wl,jM Wl i8 (cn (aF (aq 3) (aF (aq 4) bT))) iZ [some (.d (ao W)),some (.d (.tuple (r.map dR))),some (.d (dB [] [])),none,none]=some (.nx [some (.d (ao W)),some (.d (.tuple (r.map dR))),some (.d (dB (eP W ([],[]) r).1 (eP W ([],[]) r).2)),a,b]):=fun Wl=>by
    exact(jN (nK rfl)).trans h
  generalize dB (eP W ([],[]) r).1 (eP W ([],[]) r).2=D at*
  generalize ao W=w at*
  generalize r.map dR=rs at*
  unfold dB at hf
  simp only [Qv] at hf
  simp? [b7,j6,hf]
theorem hX{n:Int}(h0:0≤n)(h1:n < 1000000):(nS n).length≤6:=by
  obtain⟨m,rfl⟩:=Int.eq_ofNat_of_zero_le h0
  have h2:m < 10 ^ 6:=by lia
  have:=(Nat.length_toDigits_le_iff (b:=10) (n:=m) (k:=6) (by decide) (by decide)).mpr h2
  have e:nS (m:Int)=Pz (String.ofList (Nat.toDigits 10 m)):=rfl
  have e2:(Pz (String.ofList (Nat.toDigits 10 m))).length=(Nat.toDigits 10 m).length:=by
    rw [Str.ofString_eq_toList]
    simp [Str.length]
  rw [e,e2];exact this
theorem eK{e:En}{i:Int}(h0:0≤i)(h1:i < 1000000):g1 eY e [.d (.int i)]=some (.d (.str (nS i))):=by
  simp only [g1,eY]
  have h2:i.natAbs.log2 < 1900:=by
    by_cases z:i.natAbs=0
    · rw [z];decide
    · exact(Nat.log2_lt z).mpr (QG (show i.natAbs < 2 ^ 20 by lia) (Tg (by decide) (by decide)))
  rw [if_pos h2];rfl
theorem Wd.intB{i:Int}(h0:0≤i)(h1:i < 1000000):Wd (.int i):=⟨fun e=>eK h0 h1,by have:=hX h0 h1;show(nS i).length≤20;lia⟩
theorem xx{ds:List PD}(h:∀d∈ds,Wd d)(hl:ds.length≤60):∃t',gc (aq 0) gS (aA (g1 eY) (ac (ae 0) aj)) ds [none] []=some ((ds.map wd).map .str,[t']):=by
  obtain⟨t',h3⟩:=eH (cs:=[]) (ft:=gS) (fe:=aA (g1 eY) (ac (ae 0) aj)) (b:=fun _=>true) (y:=fun d=>.str (wd d)) ds none [] (fun _ _=>rfl) (fun x hx _=>by
    have:=(h x hx).go
    simp? [this]) (by simp;lia)
  refine⟨t',?_⟩
  rw [Rq]
  rw [UG.mpr (fun _ _=>rfl)] at h3
  exact h3
theorem qq{ds:List PD}(h:∀d∈ds,Wd d)(hl:ds.length≤60)(e:En):oB e (.d (.str (Pz " "))) (.l ((ds.map wd).map .str))=some (.d (.str (Qx (Pz " ") (ds.map wd)))):=Ah (by decide) (by
  have:=L2.sum_le (ls:=ds.map wd) (k:=20) (fun x hx=>by obtain⟨d,hd,rfl⟩:=Pw hx;exact(h d hd).ln)
  simp only [Qh] at this ⊢
  have:=Uy 20 hl
  lia)
theorem yQ{ds:List PD}(h:∀d∈ds,Wd d)(hl:ds.length≤60):cQ [.d (.tuple ds)]=some (.d (.str (Qx (Pz " ") (ds.map wd))),[.d (.tuple ds)]):=by
  obtain⟨t',h3⟩:=xx h hl
  have hc:cf [] 1 jG (aq 0) gS jB [some (.d (.tuple ds))]=some (.l ((ds.map wd).map .str),[some (.d (.tuple ds))]):=ip (own:=[]) rfl h3
  have hj:=fun e=>qq h hl e
  rw [Rq] at hc hj
  generalize Qx (Pz " ") (ds.map wd)=res at hj ⊢
  simp? [cQ,lF,hc,hj]
theorem Ek{ds:List PD}(h:∀d∈ds,Wd d)(hl:ds.length≤60):cQ [.l ds]=some (.d (.str (Qx (Pz " ") (ds.map wd))),[.l ds]):=by
  obtain⟨t',h3⟩:=xx h hl
  have hc:cf [] 1 jG (aq 0) gS jB [some (.l ds)]=some (.l ((ds.map wd).map .str),[some (.l ds)]):=ip (own:=[(0,ds)]) rfl h3
  have hj:=fun e=>qq h hl e
  rw [Rq] at hc hj
  generalize Qx (Pz " ") (ds.map wd)=res at hj ⊢
  simp? [cQ,lF,hc,hj]
noncomputable def iI(ks:List Int):Str:=if ks=[] then Pz "none" else Qx (Pz " ") (ks.map nS)
theorem uC(ks:List Int):(ks.map PyData.int).map wd=ks.map nS:=by rw [Rq];rfl
theorem Wd.ints{ks:List Int}(h:∀k∈ks,0≤k∧k < 1000000):∀d∈ks.map PyData.int,Wd d:=fun d hd=>by
  obtain⟨k,hk,rfl⟩:=Pw hd
  exact Wd.intB (h k hk).1 (h k hk).2
theorem uZ{e:En}{xs:List PD}{neg:Bool}(hs:QF (.list xs)=true):bH neg e (.d (.list xs)) (.l [])=some (.d (.bool (if neg then !xs.isEmpty else xs.isEmpty))):=by
  unfold bH
  simp only [ix,Qb,hs]
  have h0:QF (.list [])=true:=by simp [QF,Qr,QW,QE,RN]
  rw [h0]
  cases xs<;>simp [QY,PyData.eqvAll]
theorem zG{W:aR}(ok:W.Ok){asked taken:List Int}(h:∀k∈asked,h8 W k)(hl:asked.length≤1000):i_ [.d (ao W),.d (dB asked taken)]=some (.l ((W.can asked taken).map .int),[.d (ao W),.d (dB asked taken)]):=by
  let cs:En:=[some (.d (ao W)),some (.d (dB asked taken))]
  have wl:=ok.len
  have hc:∀x∈bg 0 W.ties.length,gb (cs++[some (.d x)])=some (rj (fun k=>W.may asked taken k) x,cs++[some (.d x)]):=fun x hx=>by
    obtain⟨i,hi⟩:=SY hx
    obtain⟨rfl,hi⟩:=dw hi
    have:=sO ok (taken:=taken) h hl (k:=0+(i:Int)) ⟨by lia,by lia⟩
    simp only [Ts] at this
    simp? [rj,cs,gb,this]
  have he:∀x∈bg 0 W.ties.length,rj (fun k=>W.may asked taken k) x=true→gp (cs++[some (.d x)])=some (.d (id x),cs++[some (.d x)]):=fun x hx _=>by
    simp? [cs,gp]
  obtain⟨t',hf⟩:=eH (cs:=cs) (ft:=gb) (fe:=gp) (b:=rj (fun k=>W.may asked taken k)) (y:=id) (bg 0 W.ties.length) none [] hc he (by rw [eE];simp;lia)
  have hv:=ny (cp:=[(0,"web"),(1,"stand")]) (nT:=1) (fi:=kj) (g:=aq 2) (ft:=gb) (fe:=gp) (e:=[some (.d (ao W)),some (.d (dB asked taken))]) (cs:=cs) (t:=[none]) (t':=[t']) (show kj [some (.d (ao W)),some (.d (dB asked taken))]=some (bg 0 W.ties.length,[],[some (.d (ao W)),some (.d (dB asked taken))]) from dr (n:=(W.ties.length:Int)) (by rw [bS];simp? [PX]) (by lia) (by lia)) rfl rfl hf
  rw [QS,List.map_id,nY] at hv
  simp only [i_,rG,gQ,jU,aJ,je,bf,dh,aS,iC,lp,pj,qk,aE,aw,qV,ae,vC,cc,aj,ac,c9,aA,cB,lq,uG,kP,xO,jY,uA,nB,uB,bC,bx,eO,cu,uc,fK,gP,iw,dm,bW,pM,sP,cn,aF,aq,bT,cz,aO,bv,p9,dZ,eT,cP,eU,hE,g9,gY,gX,eW,eV,eX,dI,eS,mB,eJ,jD,mD,gG,g_,jE,iU,e7,e6,dM,e8,mF,jq,cY,iR,iS,me,dG,dF,ed,gZ,PX, -Qv, -Qk, -QS, -RQ, -Qb, -Qy, -getElem?_pos, -Rh,mw,mv,ml,mj,mq,mr,mn,mx]
  simp? [hv]
theorem z5{W:aR}(ok:W.Ok){a b:List Int}:(∀k∈W.can a b,0≤k∧k < 1000000)∧(W.can a b).length≤60:=by
  have wl:=ok.len
  have hm:=nY (W:=W) (asked:=a) (taken:=b)
  refine⟨fun k hk=>?_,?_⟩
  · have h1:PyData.int k∈(W.can a b).map PyData.int:=SH.mpr ⟨k,hk,rfl⟩
    rw [←hm] at h1
    obtain⟨i,hi⟩:=SY (RV.mp h1).1
    obtain⟨e,h2⟩:=dw hi
    have:=PyData.int.inj e
    lia
  · have h1:((W.can a b).map PyData.int).length≤(bg 0 W.ties.length).length:=by rw [←hm];exact List.length_filter_le _ _
    rw [eE,Qh] at h1
    lia
theorem xE{W:aR}(ok:W.Ok){r:List (Int × Bool)}(hr:lj W ([],[]) r):eD [.d (ao W),.d (.tuple (r.map dR))]=some (.d (.str (iI (W.can (eP W ([],[]) r).1 (eP W ([],[]) r).2))),[.d (ao W),.d (.tuple (r.map dR))]):=by
  have st:=hr.st ok (iQ.first W)
  have h1:=kN ok hr
  have h2:=zG ok (taken:=(eP W ([],[]) r).2) st.inw (by have:=(vS ok st).1;lia)
  obtain⟨c1,c2⟩:=z5 ok (a:=(eP W ([],[]) r).1) (b:=(eP W ([],[]) r).2)
  have h3:=Ek (Wd.ints c1) (by rw [Qh];exact c2)
  rw [uC] at h3
  unfold iI
  generalize dB (eP W ([],[]) r).1 (eP W ([],[]) r).2=D at*
  generalize W.can (eP W ([],[]) r).1 (eP W ([],[]) r).2=ks at*
  generalize ao W=w at*
  generalize r.map dR=rs at*
  cases ks with
  | nil=>simp? [eD,lE,h1,h2]
  | cons k t=>
    have hl:¬((((k::t).map PyData.int).length:Int)≤0):=by simp
    rw [if_neg (by simp)]
    generalize Qx (Pz " ") ((k::t).map nS)=res at*
    generalize (k::t).map PyData.int=B at*
    have hl2:0 < B.length:=by lia
    simp? [eD,lE,h1,h2,h3,hl2]
theorem r6(sep y:Str):∀(x:Str) (xs:List Str),Qx sep ((x::xs)++[y])=Qx sep (x::xs)++sep++y
  | x,[]=>rfl
  | x,z::xs=>by
    have ih:=r6 sep y z xs
    show x++sep++Qx sep ((z::xs)++[y])=(x++sep++Qx sep (z::xs))++sep++y
    rw [ih]
    simp only [Str.append_assoc]
noncomputable def pY(W:aR)(r:List (Int × Bool)):Str:=iI (j0 r)++Pz " "++nS (kw W r)
theorem Ay{W:aR}(ok:W.Ok){r:List (Int × Bool)}(hr:lj W ([],[]) r):(∀k∈j0 r,0≤k∧k < 1000000)∧(j0 r).length≤16:=by
  have hl:=hr.len ok
  have wl:=ok.len
  refine⟨fun k hk=>?_,by have:=t5 (r:=r);lia⟩
  obtain⟨p,hp,rfl⟩:=t9 hk
  have:=hr.inw p hp
  obtain⟨h0,h1⟩:=this
  lia
theorem vX{W:aR}(ok:W.Ok){r:List (Int × Bool)}(hr:lj W ([],[]) r):du [.d (ao W),.d (.tuple (r.map dR))]=some (.d (.str (pY W r)),[.d (ao W),.d (.tuple (r.map dR))]):=by
  have hl:=hr.len ok
  have h1:=sN (r:=r) (by lia)
  have h2:=uw (W:=W) (r:=r) ⟨hl,hr.inw⟩
  obtain⟨w0,w1⟩:=ES ok (r:=r) ⟨hl,hr.inw⟩
  obtain⟨c1,c2⟩:=Ay ok hr
  unfold pY iI
  generalize kw W r=wt at*
  cases hk:j0 r with
  | nil=>
    rw [hk] at h1
    have h3:=yQ (ds:=[.str (Pz "none"),.int wt]) (fun d hd=>by
      simp only [Qz,QZ,or_false] at hd
      rcases hd with rfl | rfl
      · exact Wd.str (by decide)
      · exact Wd.intB w0 (by lia)) (by simp)
    have e3:Qx (Pz " ") ([PyData.str (Pz "none"),PyData.int wt].map wd)=Pz "none"++Pz " "++nS wt:=rfl
    rw [e3] at h3
    rw [if_pos rfl]
    generalize Pz "none"++Pz " "++nS wt=res at*
    generalize ao W=w at*
    generalize r.map dR=rs at*
    have g3:∀e,bi e (.d (.tuple [.str (Pz "none")])) (.d (.tuple [.int wt]))=some (.d (.tuple [.str (Pz "none"),.int wt])):=fun e=>kf (by simp)
    simp only [Qv] at h1
    simp? [du,j5,h1,h2,g3,h3]
  | cons k t=>
    rw [hk] at h1 c1 c2
    have hw:∀d∈((k::t).map PyData.int)++[PyData.int wt],Wd d:=fun d hd=>by
      rcases Pv hd with z | z
      · exact Wd.ints c1 d z
      · rw [RP] at z;rw [z];exact Wd.intB w0 (by lia)
    have hll:(((k::t).map PyData.int)++[PyData.int wt]).length≤60:=by simp at c2 ⊢;lia
    have h3:=yQ hw hll
    have e3:(((k::t).map PyData.int)++[PyData.int wt]).map wd=(nS k::t.map nS)++[nS wt]:=by
      rw [List.map_append,uC]
      rfl
    rw [e3,r6] at h3
    rw [if_neg (by simp)]
    rw [show(k::t).map nS=nS k::t.map nS from rfl]
    generalize Qx (Pz " ") (nS k::t.map nS)++Pz " "++nS wt=res at*
    have g3:∀e,bi e (.d (.tuple ((k::t).map PyData.int))) (.d (.tuple [.int wt]))=some (.d (.tuple (((k::t).map PyData.int)++[.int wt]))):=fun e=>kf (by simp at c2 ⊢;lia)
    have hl2:0 < ((k::t).map PyData.int).length:=by simp
    generalize (k::t).map PyData.int=B at*
    generalize ao W=w at*
    generalize r.map dR=rs at*
    simp? [du,j5,h1,h2,hl2,g3,h3]
theorem K'{k:Int}(h0:0≤k)(h1:k < 16):QI (Lk k) none (some 4)=Pz "ask ":=p5 (P:=fun k=>QI (Lk k) none (some 4)=Pz "ask ") Je h0 h1
theorem La{k:Int}(h0:0≤k)(h1:k < 16):QI (Lk k) (some 4) none=nS k:=p5 (P:=fun k=>QI (Lk k) (some 4) none=nS k) Jf h0 h1
theorem Lb{k:Int}(h0:0≤k)(h1:k < 16):Rr (Lk k) (Pz " ")=[Pz "ask",nS k]:=p5 (P:=fun k=>Rr (Lk k) (Pz " ")=[Pz "ask",nS k]) Jg h0 h1
theorem GB{k:Int}(h0:0≤k)(h1:k < 16):RY (nS k)=true∧(nS k).length≤4∧Tq (nS k)=some k:=p5 (P:=fun k=>RY (nS k)=true∧(nS k).length≤4∧Tq (nS k)=some k) Jh h0 h1
theorem Ld{k:Int}(h0:0≤k)(h1:k < 16):∀x∈["yes","no","may","kept","back","best","bound"],Lk k≠Pz x:=p5 (P:=fun k=>∀x∈["yes","no","may","kept","back","best","bound"],Lk k≠Pz x) Ji h0 h1
theorem xa{k:Int}(h0:0≤k)(h1:k < 16):(Lk k).length≤10:=by
  have:=(GB h0 h1).2.1
  unfold Lk
  rw [ph]
  have:(Pz "ask ").length=4:=by decide
  lia
theorem yj(k:Int):Qe (Lk k)=true:=by
  unfold Lk
  exact io (au _) (p8 k)
theorem ej{e:En}{neg:Bool}{a b:Str}(ha:Qe a=true)(hb:Qe b=true):bH neg e (.d (.str a)) (.d (.str b))=some (.d (.bool (if neg then !decide (a=b) else decide (a=b)))):=by
  have e1:(a==b)=decide (a=b):=by by_cases c:a=b<;>simp [c]
  unfold bH
  simp [ix,QF,Qr,QE,QY,ha,hb,e1]
theorem vZ{k:Int}(h0:0≤k)(h1:k < 16):bX [.d (.str (nS k))]=some (.d (.int k),[.d (.str (nS k))]):=by
  obtain⟨a1,a2,a3⟩:=GB h0 h1
  have s1:∀e:En,g1 dW e [.d (.str (nS k))]=some (.d (.int (nS k).length)):=fun e=>by
    simp only [g1,dW,bJ,Qb];rw [if_pos (by lia)]
  have s2:∀e:En,g1 iy e [.d (.str (nS k))]=some (.d (.int k)):=fun e=>by
    simp only [g1,iy,bJ,Qb];rw [if_pos (by lia),a3];rfl
  have s3:∀e:En,nP e (.d (.str (nS k)))=some (.d (.bool true)):=fun e=>by
    simp only [nP,bJ,Qy,a1]
  have s4:∀e:En,g1 eY e [.d (.int k)]=some (.d (.str (nS k))):=fun e=>eK h0 (by lia)
  have s5:∀e:En,bH false e (.d (.str (nS k))) (.d (.str (nS k)))=some (.d (.bool true)):=fun e=>by
    rw [ej (p8 k) (p8 k)];simp
  have hl:¬(4:Int) < ((nS k).length:Int):=by lia
  generalize (nS k).length=L at*
  generalize nS k=x at*
  simp? [bX,eG,s1,s2,s3,s4,s5,hl]
theorem mz{e:En}{k:Int}:lK e (.d (.int k)) (.d .none)=some (.d (.bool true)):=rfl
theorem i5{e:En}:lK e (.d .none) (.d .none)=some (.d (.bool false)):=rfl
theorem Ae{e:En}{k:Int}:Ih e (.d (.int k)) (.d .none)=some (.d (.bool false)):=rfl
theorem Af{e:En}:Ih e (.d .none) (.d .none)=some (.d (.bool true)):=rfl
theorem uv{W:aR}(ok:W.Ok){k:Int}(hk:h8 W k):bo [.d (ao W),.d (.str (Lk k))]=some (.d (.int k),[.d (ao W),.d (.str (Lk k))]):=by
  obtain⟨h0,h1⟩:=id hk
  have wl:=ok.len
  have h1':k < 16:=by lia
  have a:=xa h0 h1'
  have s0:∀e:En,iB e (.d (.str (Lk k))) (.d (.str (Pz " ")))=some (.l [.str (Pz "ask"),.str (nS k)]):=fun e=>by
    simp only [iB,bJ,Qb]
    rw [if_pos ⟨by decide,by lia⟩,Lb h0 h1'];rfl
  have n1:=vZ h0 h1'
  have s5:∀e:En,bH true e (.d (.str (Pz "ask"))) (.d (.str (Pz "ask")))=some (.d (.bool false)):=fun e=>by
    rw [ej (au _) (au _)];simp
  have g1':∀e:En,dC e (.d (ao W)) (.d (.int 1))=some (.d (.tuple (W.ties.map ci))):=fun e=>by rw [bS,eJ,cY];rfl
  have hlt:k < ((W.ties.map ci).length:Int):=by simpa using h1
  generalize W.ties.map ci=TT at*
  generalize ao W=w at*
  generalize Lk k=x at*
  generalize nS k=y at*
  simp? [bo,cm,s0,s5,n1,g1',mz,hlt]
inductive Ln (W:aR) (B:Prop):Str→Prop
  | ask {k:Int} (h:h8 W k):Ln W B (Lk k)
  | yes:Ln W B (Pz "yes")
  | no:Ln W B (Pz "no")
  | back (h:B):Ln W B (Pz "back")
def oL(o:Option Int):List PD:=o.toList.map .int
theorem HK:∀{a b:String},Pz a≠Pz b→∀(e:En) (neg:Bool),bH neg e (.d (.str (Pz a))) (.d (.str (Pz b)))=some (.d (.bool neg)):=fun{a b} h e neg=>by
  rw [ej (au _) (au _)]
  simp [h]
theorem Ik(a:String)(e:En)(neg:Bool):bH neg e (.d (.str (Pz a))) (.d (.str (Pz a)))=some (.d (.bool !neg)):=by
  rw [ej (au _) (au _)]
  simp
theorem JR(p:Int × Bool):Sh 4 (dR p):=Sh.tup (n:=2) fun d hd=>by
  simp only [Qz,QZ,or_false] at hd
  rcases hd with rfl | rfl
  · exact Sh.int
  · exact Sh.bool
theorem y6(r:List (Int × Bool)):QF (.list (r.map dR))=true:=(Sh.list (n:=4) fun d hd=>by
  obtain⟨p,_,rfl⟩:=Pw hd
  exact JR p).ok (by decide)
theorem vc(sep:Str)(hs:sep.length=1):∀(xs:List Str) (k:Nat),(∀x∈xs,x.length≤k)→(Qx sep xs).length≤xs.length*(k+1)
  | [],_,_=>by show(RJ).length≤_;exact Sb _
  | [x],k,h=>by show x.length≤_;have:=h x (by simp);simp;lia
  | x::y::r,k,h=>by
    have ih:=vc sep hs (y::r) k fun z hz=>h z (QV _ hz)
    have:=h x (by simp)
    show(x++sep++Qx sep (y::r)).length≤_
    rw [ph,ph,hs,Ro,Nat.succ_mul]
    lia
theorem BH{ks:List Int}(h:∀k∈ks,0≤k∧k < 1000000)(hl:ks.length≤60):(iI ks).length≤1000:=by
  unfold iI
  split
  · decide
  · have:=vc (Pz " ") (by decide) (ks.map nS) 6 fun x hx=>by
      obtain⟨k,hk,rfl⟩:=Pw hx
      exact hX (h k hk).1 (h k hk).2
    rw [Qh] at this
    lia
noncomputable def uJ(W:aR)(k:Int)(b:Bool):Str:=if b=true then Pz "kept "++nS (W.tie k).worth else Pz "gone"
noncomputable def uD(b:Bool):Str:=if b=true then Pz "yes" else Pz "no"
def x_(a b c:PD):List (Str × PD):=[("web",a),("run",b),("waiting",c)]
theorem mh(a b c:PD):(x_ a b c).lookup ("web":Str)=some a:=rfl
theorem kb(a b c:PD):(x_ a b c).lookup ("run":Str)=some b:=rfl
theorem mf(a b c:PD):(x_ a b c).lookup ("waiting":Str)=some c:=rfl
theorem FP(a b c:PD):(x_ a b c).lookup ("take_ask":Str)=none:=rfl
theorem Aa(a b c:PD):(x_ a b c).lookup ("take_answer":Str)=none:=rfl
theorem ox(a b c:PD):(x_ a b c).length < 900:=show 3 < 900 by decide
theorem tN(a b c x:PD):mS "run" x (x_ a b c)=x_ a x c:=rfl
theorem ka(a b c x:PD):mS "waiting" x (x_ a b c)=x_ a b x:=rfl
theorem bK(c:Lc)(o:Ob)(r:j2):QP c ((c,o)::r)=some o:=by rw [Qw];simp
theorem cG(c:Lc)(o o':Ob):ur c o' [(c,o)]=[(c,o')]:=by simp [ur]
def wO(o:Option Int):PD:=o.elim .none .int
def dc(W:aR)(r:List (Int × Bool))(o:Option Int):Ob:=.dk (x_ (ao W) (.tuple (r.map dR)) (wO o))
theorem C6(w:PD):b5 ([none,some (.d w)],[(.s 0,.dk [])])=some (.none,[(.s 0,.dk (x_ w (.tuple []) .none))]):=by
  have p1:mS "waiting" .none (mS "run" (.tuple []) (mS "web" w []))=x_ w (.tuple []) .none:=rfl
  have q1:(mS "web" w []).length < 900:=show 1 < 900 by decide
  have q2:(mS "run" (.tuple []) (mS "web" w [])).length < 900:=show 2 < 900 by decide
  simp? [b5,gu,i4,bh,fm,aC,j3,okO,Lc.slot,bK,cG,p1,q1,q2]
theorem FN{W:aR}(ok:W.Ok){r:List (Int × Bool)}{o:Option Int}{k:Int}(hr:lj W ([],[]) r)(hk:h8 W k)(g:Bool)(hg:g=(o.isNone&&W.may (eP W ([],[]) r).1 (eP W ([],[]) r).2 k)):bw ([none,some (.d (.int k))],[(.s 0,dc W r o)])=some (.str (if g=true then Pz "asked" else Pz "NoAsk"),[(.s 0,dc W r (if g=true then some k else o))]):=by
  have st:=hr.st ok (iQ.first W)
  have h1:=kN ok hr
  have h2:=sO ok (taken:=(eP W ([],[]) r).2) st.inw (by have:=(vS ok st).1;lia) hk
  unfold dc
  generalize W.may (eP W ([],[]) r).1 (eP W ([],[]) r).2 k=mb at*
  generalize dB (eP W ([],[]) r).1 (eP W ([],[]) r).2=D at*
  generalize r.map dR=rs at*
  generalize ao W=w at*
  cases o with
  | some j=>
    subst hg
    simp? [bw,gu,dD,bh,cL,bI,bY,fm,xP,sT,bG,dQ,nA,bQ,gE,bR,aC,j3,okO,Lc.slot,bK,cG,mh,kb,mf,ox,ka,wO,L2.boolD,mz,h1,h2]
  | none=>
    cases mb with
    | true=>
      subst hg
      simp? [bw,gu,dD,bh,cL,bI,bY,fm,xP,sT,bG,dQ,nA,bQ,gE,bR,aC,j3,okO,Lc.slot,bK,cG,mh,kb,mf,ox,ka,wO,L2.boolD,i5,h1,h2]
    | false=>
      subst hg
      simp? [bw,gu,dD,bh,cL,bI,bY,fm,xP,sT,bG,dQ,nA,bQ,gE,bR,aC,j3,okO,Lc.slot,bK,cG,mh,kb,mf,ox,ka,wO,L2.boolD,i5,h1,h2]
theorem CB{W:aR}{r:List (Int × Bool)}(b:Bool):aU ([none,some (.d (.bool b))],[(.s 0,dc W r none)])=some (.str (Pz "NoAsk"),[(.s 0,dc W r none)]):=by
  unfold dc
  simp? [aU,gu,cE,bh,cL,bI,bY,bG,dQ,bR,aC,j3,okO,Lc.slot,bK,mf,wO,L2.boolD,Af]
theorem FL{W:aR}(ok:W.Ok){r:List (Int × Bool)}{k:Int}(hl:r.length≤16)(hk:h8 W k)(b:Bool):aU ([none,some (.d (.bool b))],[(.s 0,dc W r (some k))])=some (.str (uJ W k b),[(.s 0,dc W (r++[(k,b)]) none)]):=by
  have o:=hk.ok ok
  have g1':∀e:En,dC e (.d (ao W)) (.d (.int 1))=some (.d (.tuple (W.ties.map ci))):=fun e=>by rw [bS,eJ,cY];rfl
  have ai:=fZ (W:=W) (k:=k) hk
  have e1:(r++[(k,b)]).map dR=r.map dR++[dR (k,b)]:=by simp
  have n1:(W.tie k).worth.natAbs.log2 < 1900:=by
    have:=o.w0;have:=o.w1
    have:=Nat.log2_le_self (W.tie k).worth.natAbs
    lia
  have n2:(nS (W.tie k).worth).length≤1000:=Qq (hX o.w0 (by have:=o.w1;lia)) (by decide)
  have n3:Pz (W.tie k).worth.repr=nS (W.tie k).worth:=rfl
  have n4:∀y:Str,RJ++y=y:=fun y=>by
    obtain⟨c⟩:=y
    show(⟨#[]++c⟩:Str)=⟨c⟩
    rw [Array.empty_append]
  have n6:∀(e:En) (d:PD),bi e (.d (.tuple (r.map dR))) (.d (.tuple [d]))=some (.d (.tuple (r.map dR++[d]))):=fun e d=>by
    have h1:rT e (.d (.tuple (r.map dR))) (.d (.tuple [d]))=none:=rfl
    have h2:lr e (.d (.tuple (r.map dR))) (.d (.tuple [d]))=some (.d (.tuple (r.map dR++[d]))):=by
      have:(r.map dR).length+[d].length≤1000000:=by rw [Qh,Uu];lia
      unfold lr
      simp only [cU]
      rw [if_pos this]
    rw [show bi e (.d (.tuple (r.map dR))) (.d (.tuple [d]))=(rT e (.d (.tuple (r.map dR))) (.d (.tuple [d]))).or ((lr e (.d (.tuple (r.map dR))) (.d (.tuple [d]))).or (pP e (.d (.tuple (r.map dR))) (.d (.tuple [d])))) from rfl,h1,h2]
    rfl
  have n5:("kept ":Str).length≤1000:=by decide
  unfold dc
  rw [e1]
  unfold uJ
  unfold ci at ai g1'
  generalize (W.ties.map fun t=>PyData.tuple [.int t.one,.int t.other,.tuple [.int t.top,.int t.bot],.int t.worth])=TT at*
  generalize r.map dR=rs at*
  generalize ao W=w at*
  cases b with
  | true=>simp? [aU,gu,cE,bh,cL,bI,bY,oM,fm,bG,dQ,wj,B',bR,aC,de,j3,okO,Lc.slot,bK,cG,mh,kb,mf,ox,ka,tN,wO,L2.boolD,Ae,g1',ai,n1,n2,n3,n4,n5,n6,dR]
  | false=>simp? [aU,gu,cE,bh,cL,bI,bY,oM,fm,bG,dQ,wj,B',bR,aC,de,j3,okO,Lc.slot,bK,cG,mh,kb,mf,ox,ka,tN,wO,L2.boolD,Ae,g1',ai,n6,dR]
theorem lJ{e:En}{x a b:Str}(hx:Qe x=true)(ha:Qe a=true)(hb:Qe b=true):nD false e (.d (.str x)) (.d (.tuple [.str a,.str b]))=some (.d (.bool (decide (a=x) || decide (b=x)))):=by
  have v:∀y:Str,QY (.str y) (.str x)=decide (y=x):=fun y=>by
    show(y==x)=decide (y=x)
    by_cases c:y=x<;>simp [c]
  unfold nD
  simp only [ix,cU,Qb]
  rw [if_pos (by simp [Qr,QW,QE,hx,ha,hb])]
  rw [if_neg (by decide),Tj,Tj,List.any_nil,v,v,TH]
theorem pX{e:En}{x:Str}:Ag "str" e (.d (.str x))=some (.d (.bool true)):=rfl
theorem BN{W:aR}{r:List (Int × Bool)}{o:Option Int}{t:Str}{r':List (Int × Bool)}{o':Option Int}(b:Bool)(h:aU ([none,some (.d (.bool b))],[(.s 0,dc W r o)])=some (.str t,[(.s 0,dc W r' o')])):aG ([none,some (.d (.str (uD b)))],[(.s 0,dc W r o)])=some (.str t,[(.s 0,dc W r' o')]):=by
  unfold dc at*
  cases b with
  | true=>
    have q1:=fun e=>lJ (e:=e) (x:=Pz "yes") (a:=Pz "yes") (b:=Pz "no") (au _) (au _) (au _)
    have q2:=Ik "yes"
    have e0:uD true=Pz "yes":=rfl
    simp? [aG,gu,cN,bh,cL,bI,bY,bP,gM,eN,dU,lN,o6,iK,L2.locs,aC,de,j3,okO,Lc.slot,bK,cG,Aa,e0,q1,q2,pX,h]
  | false=>
    have q1:=fun e=>lJ (e:=e) (x:=Pz "no") (a:=Pz "yes") (b:=Pz "no") (au _) (au _) (au _)
    have q2:=HK (a:="no") (b:="yes") (by decide+kernel)
    have e0:uD false=Pz "no":=rfl
    simp? [aG,gu,cN,bh,cL,bI,bY,bP,gM,eN,dU,lN,o6,iK,L2.locs,aC,de,j3,okO,Lc.slot,bK,cG,Aa,e0,q1,q2,pX,h]
theorem BL{W:aR}(ok:W.Ok){r:List (Int × Bool)}{o:Option Int}(hr:lj W ([],[]) r):aG ([none,some (.d (.str (Pz "kept")))],[(.s 0,dc W r o)])=some (.str (pY W r),[(.s 0,dc W r o)]):=by
  have q1:=fun e=>lJ (e:=e) (x:=Pz "kept") (a:=Pz "yes") (b:=Pz "no") (au _) (au _) (au _)
  have q2:=HK (a:="kept") (b:="back") (by decide+kernel)
  have d1:(Pz "yes"=Pz "kept")=False:=eq_false (by decide+kernel)
  have d2:(Pz "no"=Pz "kept")=False:=eq_false (by decide+kernel)
  have q3:(Hr.any fun k=>Pz "kept"==k)=true:=by decide+kernel
  have q4:qs.lookup (Pz "kept")=some du:=by
    unfold qs
    rw [Qw,show(Pz "kept"==("may":Str))=false from by decide+kernel,Qw,show(Pz "kept"==("kept":Str))=true from by decide+kernel]
  have h:=vX ok hr
  unfold dc at*
  generalize pY W r=RES at*
  simp? [aG,gu,cN,bh,cL,bI,bY,xD,vG,nA,bQ,gE,bR,bJ,bP,gM,eN,dU,lN,o6,iK,L2.locs,aC,de,j3,okO,Lc.slot,bK,cG,mh,kb,q1,q2,q3,q4,d1,d2,pX,h]
theorem D7{W:aR}(ok:W.Ok){r:List (Int × Bool)}{o:Option Int}{k:Int}(hk:h8 W k){t:Str}{o':Option Int}(h:bw ([none,some (.d (.int k))],[(.s 0,dc W r o)])=some (.str t,[(.s 0,dc W r o')])):aG ([none,some (.d (.str (Lk k)))],[(.s 0,dc W r o)])=some (.str t,[(.s 0,dc W r o')]):=by
  obtain⟨k0,k1⟩:=id hk
  have wl:=ok.len
  have k1':k < 16:=by lia
  have n5:=Ld k0 k1'
  have q1:=fun e=>lJ (e:=e) (x:=Lk k) (a:=Pz "yes") (b:=Pz "no") (yj k) (au _) (au _)
  have q2:=fun e neg=>ej (e:=e) (neg:=neg) (a:=Lk k) (b:=Pz "back") (yj k) (au _)
  have d0:(Lk k=Pz "back")=False:=eq_false (n5 "back" (by decide))
  have d1:(Pz "yes"=Lk k)=False:=eq_false fun z=>n5 "yes" (by decide) z.symm
  have d2:(Pz "no"=Lk k)=False:=eq_false fun z=>n5 "no" (by decide) z.symm
  have q3:(Hr.any fun x=>Lk k==x)=false:=by
    have e:∀{s:String},s∈["yes","no","may","kept","back","best","bound"]→(Lk k==Pz s)=false:=fun{s} hs=>beq_eq_false_iff_ne.mpr (n5 s hs)
    show(Lk k==Pz "may" || (Lk k==Pz "best" || (Lk k==Pz "bound" || (Lk k==Pz "kept" || false))))=false
    rw [e (by decide),e (by decide),e (by decide),e (by decide)]
    rfl
  have h2:=uv ok hk
  unfold dc at*
  generalize Lk k=x at*
  simp? [aG,gu,cN,bh,cL,bI,bY,oM,wj,xD,nA,bQ,gE,bR,bJ,bP,gM,eN,dU,lN,o6,iK,L2.locs,aC,de,j3,okO,Lc.slot,bK,cG,mh,kb,FP,q1,q2,q3,d0,d1,d2,pX,Ae,h2,h]
theorem D8{W:aR}(ok:W.Ok){r:List (Int × Bool)}{o:Option Int}(hr:lj W ([],[]) r):aG ([none,some (.d (.str (Pz "may")))],[(.s 0,dc W r o)])=some (.str (iI (W.can (eP W ([],[]) r).1 (eP W ([],[]) r).2)),[(.s 0,dc W r o)]):=by
  have q1:=fun e=>lJ (e:=e) (x:=Pz "may") (a:=Pz "yes") (b:=Pz "no") (au _) (au _) (au _)
  have q2:=HK (a:="may") (b:="back") (by decide+kernel)
  have d1:(Pz "yes"=Pz "may")=False:=eq_false (by decide+kernel)
  have d2:(Pz "no"=Pz "may")=False:=eq_false (by decide+kernel)
  have q3:(Hr.any fun k=>Pz "may"==k)=true:=by decide+kernel
  have q4:qs.lookup (Pz "may")=some eD:=by
    unfold qs
    rw [Qw,show(Pz "may"==("may":Str))=true from by decide+kernel]
  have h:=xE ok hr
  unfold dc at*
  generalize iI (W.can (eP W ([],[]) r).1 (eP W ([],[]) r).2)=RES at*
  simp? [aG,gu,cN,bh,cL,bI,bY,xD,vG,nA,bQ,gE,bR,bJ,bP,gM,eN,dU,lN,o6,iK,L2.locs,aC,de,j3,okO,Lc.slot,bK,cG,mh,kb,q1,q2,q3,q4,d1,d2,pX,h]
noncomputable def xZ(r:List (Int × Bool))(o:Option Int):Str:=if r.isEmpty&&o.isNone=true then Pz "NoAsk" else Pz "back"
def zO(r:List (Int × Bool)):Option Int→List (Int × Bool)
  | some _=>r
  | none=>r.dropLast
theorem z_(xs:List PD):L2.cutD xs none (some (-1))=xs.dropLast:=by
  unfold L2.cutD
  have h0:HT.sIx xs.length 0 none=0:=rfl
  have h1:HT.sIx xs.length xs.length (some (-1))=xs.length - 1:=by
    unfold HT.sIx
    simp
    lia
  rw [h0,h1,Ud,Nat.sub_zero,UH]
theorem CC{W:aR}{r:List (Int × Bool)}{o:Option Int}:bE ([none],[(.s 0,dc W r o)])=some (.str (xZ r o),[(.s 0,dc W (zO r o) none)]):=by
  cases o with
  | some k=>
    have eb:xZ r (some k)=Pz "back":=by unfold xZ;simp
    rw [eb]
    unfold zO dc
    simp? [bE,gu,c_,bh,cL,bI,fm,bG,dQ,bR,aC,j3,okO,Lc.slot,bK,cG,mf,ox,ka,wO,L2.boolD,mz]
  | none=>
    by_cases hn:r=[]
    · subst hn
      have eb:xZ [] none=Pz "NoAsk":=rfl
      rw [eb]
      unfold zO dc
      simp? [bE,gu,c_,bh,cL,bI,fm,bG,dQ,oe,bQ,gE,bR,aC,j3,okO,Lc.slot,bK,cG,mf,kb,ox,ka,tN,wO,L2.boolD,i5]
    · have eb:xZ r none=Pz "back":=by
        unfold xZ
        cases r with
        | nil=>exact absurd rfl hn
        | cons p t=>rfl
      have hpos:0 < r.length:=List.length_pos_iff.mpr hn
      have hl:((r.map dR).length:Int)=(r.length:Int):=by simp
      have sl:∀e:En,CL e (.d (.tuple (r.map dR))) none (some (-1))=some (.d (.tuple (r.dropLast.map dR))):=fun e=>by
        unfold CL
        simp only [cU,Qy]
        rw [z_,List.map_dropLast]
        rfl
      rw [eb]
      unfold zO dc
      generalize r.dropLast.map dR=rs' at*
      generalize r.map dR=rs at*
      generalize r.length=n at*
      simp? [bE,gu,c_,bh,cL,bI,fm,bG,dQ,oe,bQ,gE,Et,bR,aC,j3,okO,Lc.slot,bK,cG,mf,kb,ox,ka,tN,wO,L2.boolD,i5,sl,hl,hpos]
theorem BK{W:aR}{r:List (Int × Bool)}{o:Option Int}:aG ([none,some (.d (.str (Pz "back")))],[(.s 0,dc W r o)])=some (.str (xZ r o),[(.s 0,dc W (zO r o) none)]):=by
  have q1:=fun e=>lJ (e:=e) (x:=Pz "back") (a:=Pz "yes") (b:=Pz "no") (au _) (au _) (au _)
  have q2:=Ik "back"
  have d1:(Pz "yes"=Pz "back")=False:=eq_false (by decide+kernel)
  have d2:(Pz "no"=Pz "back")=False:=eq_false (by decide+kernel)
  have h:=CC (W:=W) (r:=r) (o:=o)
  have m0:∀r o,∃gs,dc W r o=.dk gs∧gs.lookup ("take_back":Str)=none:=fun r o=>⟨_,rfl,rfl⟩
  obtain⟨gs,hd,hn⟩:=m0 r o
  rw [hd] at h ⊢
  generalize dc W (zO r o) none=D1 at*
  generalize xZ r o=RES at*
  simp? [aG,gu,cN,bh,cL,bI,bY,bP,gM,dU,lN,o6,iK,L2.locs,aC,de,j3,okO,Lc.slot,bK,cG,hn,d1,d2,pX,q1,q2,h]
def jS(x:Str):Prop:=∀c∈x.cps.toList,c < 128
theorem jS.ok{x:Str}(h:jS x):Qe x=true:=by
  unfold Qe
  rw [←Array.all_toList,Qp]
  intro c hc
  have:=h c hc
  simp
  lia
theorem jS.app{x y:Str}(h:jS x)(k:jS y):jS (x++y):=fun c hc=>by
  rw [Ue,Ug,QU] at hc
  exact hc.elim (h c) (k c)
theorem jS.slice{x:Str}(h:jS x)(l u:Option Int):jS (QI x l u):=fun c hc=>by
  unfold QI at hc
  split at hc
  · exact h c hc
  · simp only [Tt] at hc
    obtain⟨i,_,hi⟩:=hc
    exact h c (Array.mem_toList_iff.mpr (Array.mem_of_getElem? hi))
theorem jS.lit{x:Str}(h:x.cps.toList.all (fun c=>decide (c < 128))=true):jS x:=fun c hc=>by simpa using Qp.mp h c hc
theorem IG:∀c:Fin 128,Unicode.isDecimal c.val=true→48≤c.val∧c.val≤57:=by decide+kernel
theorem wJ{w:Str}(ha:jS w)(hd:RY w=true):UQ w.cps.toList∧w.cps.toList≠[]:=by
  unfold RY at hd
  rw [QD,decide_eq_true_eq] at hd
  refine⟨fun c hc=>?_,fun z=>?_⟩
  · have h2:=hd.2
    rw [←Array.all_toList,Qp] at h2
    exact IG ⟨c,ha c hc⟩ (h2 c hc)
  · have:w.length=w.cps.toList.length:=by simp [Str.length]
    rw [z] at this
    simp at this
    lia
theorem EI:∀(cs:List Nat) (acc:Nat),UQ cs→cs.foldl (fun acc c=>acc*10+(c - 48)) acc < (acc+1)*10 ^ cs.length
  | [],acc,_=>by simp
  | c::r,acc,h=>by
    have h1:=EI r (acc*10+(c - 48)) h.tail
    have h2:=h.head
    have h3:acc*10+(c - 48)+1≤(acc+1)*10:=by lia
    calc (c::r).foldl (fun acc c=>acc*10+(c - 48)) acc=r.foldl (fun acc c=>acc*10+(c - 48)) (acc*10+(c - 48)):=rfl
      _ < (acc*10+(c - 48)+1)*10 ^ r.length:=h1
      _≤(acc+1)*10*10 ^ r.length:=Uy _ h3
      _=(acc+1)*10 ^ (c::r).length:=by rw [Ro,Nat.pow_succ,Nat.mul_assoc,Nat.mul_comm 10]
theorem uu{w:Str}(ha:jS w)(hl:w.length≤1000000):∃v,bX [.d (.str w)]=some (.d v,[.d (.str w)])∧(v=.none∨∃n:Int,v=.int n∧0≤n∧nS n=w):=by
  have s1:∀e:En,g1 dW e [.d (.str w)]=some (.d (.int w.length)):=fun e=>by
    simp only [g1,dW,bJ,Qb];rw [if_pos (by lia)]
  have s3:∀e:En,nP e (.d (.str w))=some (.d (.bool (RY w))):=fun e=>by
    simp only [nP,bJ,Qy]
  cases hd:RY w with
  | false=>
    rw [hd] at s3
    refine⟨.none,?_,.inl rfl⟩
    generalize w.length=L at*
    generalize w=x at*
    simp? [bX,eG,s1,s3]
  | true=>
    rw [hd] at s3
    by_cases h4:w.length≤4
    · obtain⟨d1,d2⟩:=wJ ha hd
      have hi:=intText_digits d1 d2 (by lia)
      have hb:UI w.cps.toList < 10000:=by
        have h:=EI w.cps.toList 0 d1
        have hw:w.cps.toList.length=w.length:=by simp [Str.length]
        rw [hw] at h
        have:10 ^ w.length≤10 ^ 4:=Tg (by decide) h4
        unfold UI
        lia
      generalize UI w.cps.toList=n at*
      have s2:∀e:En,g1 iy e [.d (.str w)]=some (.d (.int (n:Int))):=fun e=>by
        simp only [g1,iy,bJ,Qb];rw [if_pos (by lia),hi];rfl
      have s4:∀e:En,g1 eY e [.d (.int (n:Int))]=some (.d (.str (nS (n:Int)))):=fun e=>eK (by lia) (by lia)
      have s5:∀e:En,bH false e (.d (.str (nS (n:Int)))) (.d (.str w))=some (.d (.bool (decide (nS (n:Int)=w)))):=fun e=>by
        rw [ej (p8 _) ha.ok];simp
      have hl4:¬(4:Int) < (w.length:Int):=by lia
      refine⟨if nS (n:Int)=w then .int (n:Int) else .none,?_,?_⟩
      · generalize w.length=L at*
        by_cases c:nS (n:Int)=w
        · rw [if_pos c]
          have c':decide (nS (n:Int)=w)=true:=by simpa using c
          rw [c'] at s5
          generalize nS (n:Int)=y at*
          generalize (n:Int)=N at*
          generalize w=x at*
          simp? [bX,eG,s1,s2,s3,s4,s5,hl4]
        · rw [if_neg c]
          have c':decide (nS (n:Int)=w)=false:=by simpa using c
          rw [c'] at s5
          generalize nS (n:Int)=y at*
          generalize (n:Int)=N at*
          generalize w=x at*
          simp? [bX,eG,s1,s2,s3,s4,s5,hl4]
      · by_cases c:nS (n:Int)=w
        · rw [if_pos c];exact .inr ⟨(n:Int),rfl,by lia,c⟩
        · rw [if_neg c];exact .inl rfl
    · have hl4:(4:Int) < (w.length:Int):=by lia
      refine⟨.none,?_,.inl rfl⟩
      generalize w.length=L at*
      generalize w=x at*
      simp? [bX,eG,s1,s3,hl4]
theorem xH{W:aR}(ok:W.Ok){x:Str}(ha:jS x)(hl:x.length≤1000000)(hn:∀k,h8 W k→x≠Lk k):bo [.d (ao W),.d (.str x)]=some (.d .none,[.d (ao W),.d (.str x)]):=by
  have s0:∀e:En,iB e (.d (.str x)) (.d (.str (Pz " ")))=some (.l ((Rr x (Pz " ")).map .str)):=fun e=>by
    simp only [iB,bJ,Qb]
    rw [if_pos ⟨by decide,by lia⟩]
  have hj:=StrLaws.join_split x (Pz " ")
  have g1':∀e:En,dC e (.d (ao W)) (.d (.int 1))=some (.d (.tuple (W.ties.map ci))):=fun e=>by rw [bS,eJ,cY];rfl
  have tl:((W.ties.map ci).length:Int)=(W.ties.length:Int):=by simp
  have ne2:∀n:Nat,n≠2→∀e:En,bH true e (.d (.int (n:Int))) (.d (.int 2))=some (.d (.bool true)):=fun n hn e=>by
    rw [eU]
    have:((n:Int)==2)=false:=by
      rw [beq_eq_false_iff_ne]
      lia
    rw [this]
    rfl
  generalize hs:Rr x (Pz " ")=ws at*
  match ws,hj with
  | [a,b],hj=>
    have hj':a++Pz " "++b=x:=hj
    have aa:jS a:=fun c hc=>ha c (by rw [←hj',Ue,Ug,Ue,Ug];simp [hc])
    have ab:jS b:=fun c hc=>ha c (by rw [←hj',Ue,Ug];simp [hc])
    have bl:b.length≤1000000:=by
      have:(a++Pz " "++b).length=(a++Pz " ").length+b.length:=ph _ _
      rw [hj'] at this
      lia
    have e2:∀e:En,bH true e (.d (.int 2)) (.d (.int 2))=some (.d (.bool false)):=fun e=>by rw [eU];rfl
    have ea:∀e:En,bH true e (.d (.str a)) (.d (.str (Pz "ask")))=some (.d (.bool (!decide (a=Pz "ask")))):=fun e=>by
      rw [ej aa.ok (au _)];rfl
    obtain⟨v,nv,hv⟩:=uu ab bl
    by_cases ca:a=Pz "ask"
    · have ca':decide (a=Pz "ask")=true:=by simpa using ca
      rw [ca'] at ea
      rcases hv with rfl | ⟨n,rfl,n0,hb⟩
      · generalize W.ties.map ci=TT at*
        generalize ao W=w at*
        clear hs hj hj' ha hn ca ca' aa ab bl
        simp? [bo,cm,s0,e2,ea,nv,i5]
      · have hnl:¬n < (W.ties.length:Int):=fun z=>hn n ⟨n0,z⟩ (by
          rw [←hj',ca,←hb]
          unfold Lk
          rw [show Pz "ask "=Pz "ask"++Pz " " from by decide+kernel])
        generalize W.ties.map ci=TT at*
        generalize ao W=w at*
        clear hs hj hj' ha hn ca ca' aa ab bl hb
        simp? [bo,cm,s0,e2,ea,nv,mz,g1',tl,hnl]
    · have ca':decide (a=Pz "ask")=false:=by simpa using ca
      rw [ca'] at ea
      clear hs hj hj' ha hn ca ca' aa ab bl nv hv
      generalize ao W=w at*
      simp? [bo,cm,s0,e2,ea]
  | [],_=>
    have n2:=ne2 0 (by decide)
    clear hs
    generalize ao W=w at*
    simp only [Qv] at s0
    simp? [bo,cm,s0,n2]
  | [a],_=>
    have n2:=ne2 1 (by decide)
    clear hs
    generalize ao W=w at*
    simp only [Qk,Qv] at s0
    simp? [bo,cm,s0,n2]
  | a::b::c::r,_=>
    have n2:=ne2 (((a::b::c::r).map PyData.str).length) (by simp)
    clear hs
    generalize ao W=w at*
    generalize (a::b::c::r).map PyData.str=Q at*
    simp? [bo,cm,s0,n2]
theorem BM{W:aR}(ok:W.Ok){r:List (Int × Bool)}{o:Option Int}{x:Str}(ha:jS x)(hl:x.length≤1000000)(hn:∀k,h8 W k→x≠Lk k)(hw:∀s∈["yes","no","may","kept","back","best","bound"],x≠Pz s):aG ([none,some (.d (.str x))],[(.s 0,dc W r o)])=some (.str (Pz "NoWord"),[(.s 0,dc W r o)]):=by
  have q1:=fun e=>lJ (e:=e) (x:=x) (a:=Pz "yes") (b:=Pz "no") ha.ok (au _) (au _)
  have q2:=fun e neg=>ej (e:=e) (neg:=neg) (a:=x) (b:=Pz "back") ha.ok (au _)
  have d0:(x=Pz "back")=False:=eq_false (hw "back" (by decide))
  have d1:(Pz "yes"=x)=False:=eq_false fun z=>hw "yes" (by decide) z.symm
  have d2:(Pz "no"=x)=False:=eq_false fun z=>hw "no" (by decide) z.symm
  have q3:(Hr.any fun y=>x==y)=false:=by
    have e:∀{s:String},s∈["yes","no","may","kept","back","best","bound"]→(x==Pz s)=false:=fun{s} hs=>beq_eq_false_iff_ne.mpr (hw s hs)
    show(x==Pz "may" || (x==Pz "best" || (x==Pz "bound" || (x==Pz "kept" || false))))=false
    rw [e (by decide),e (by decide),e (by decide),e (by decide)]
    rfl
  have h2:=xH ok ha hl hn
  unfold dc at*
  clear ha hl hn hw
  simp? [aG,gu,cN,bh,cL,bI,bY,oM,wj,xD,nA,bQ,gE,bR,bJ,aC,de,j3,okO,Lc.slot,bK,cG,mh,kb,q1,q2,q3,d0,d1,d2,pX,h2,Af,L2.boolD]
theorem j9:∀{ys:List Str},(∀y∈ys,Qe y=true)→QW (ys.map .str)=true
  | [],_=>rfl
  | y::r,h=>by
    simp only [Qk,QW,Qr,h y (by simp),Bool.true_and]
    exact j9 fun z hz=>h z (QV _ hz)
theorem pQ{e:En}{x:Str}{ys:List Str}(hx:Qe x=true)(hy:∀y∈ys,Qe y=true):nD false e (.d (.str x)) (.l (ys.map .str))=some (.d (.bool (ys.any fun y=>decide (y=x)))):=by
  have v:∀y:Str,QY (.str y) (.str x)=decide (y=x):=fun y=>by
    show(y==x)=decide (y=x)
    by_cases c:y=x<;>simp [c]
  unfold nD
  simp only [ix,cU,Qb]
  rw [if_pos (by rw [j9 hy];simp [Qr,QE,hx])]
  rw [if_neg (by decide),List.any_map]
  simp only [Function.comp_def,v]
theorem Ff{ks:List Int}(h:∀k∈ks,0≤k∧k < 1000000)(hl:ks.length≤60):sd [.d (.list (ks.map .int))]=some (.d (.str (iI ks)),[.d (.list (ks.map .int))]):=by
  unfold iI
  cases ks with
  | nil=>rfl
  | cons k r=>
    have h1:=Wd.ints h
    have hl':((k::r).map PyData.int).length≤60:=by simpa using hl
    obtain⟨t',h3⟩:=xx h1 hl'
    have hc:cf [] 1 yg (aq 0) gS yc [some (.d (.list ((k::r).map .int)))]=some (.l ((((k::r).map .int).map wd).map .str),[some (.d (.list ((k::r).map .int)))]):=ip (own:=[]) rfl h3
    have hj:=fun e=>qq h1 hl' e
    have ne:∀e,bH false e (.d (.list ((k::r).map .int))) (.l [])=some (.d (.bool false)):=fun e=>by
      have:=uZ (e:=e) (neg:=false) (oS (k::r)).1
      simpa using this
    rw [if_neg (by simp)]
    rw [uC] at hc hj
    generalize Qx (Pz " ") ((k::r).map nS)=res at hj ⊢
    generalize ((k::r).map nS).map PyData.str=A at hc hj
    generalize (k::r).map PyData.int=B at*
    simp? [sd,EF,ne,hc,hj]
theorem yM{W:aR}(ok:W.Ok){r:List (Int × Bool)}(hr:lj W ([],[]) r):jI [.d (ao W),.d (.list (r.map dR))]=some (.d (dB (eP W ([],[]) r).1 (eP W ([],[]) r).2),[.d (ao W),.d (.list (r.map dR))]):=by
  obtain⟨a,b,h⟩:=qr ok (m:=iz) (own:=[]) (x1:=some (.d (.list (r.map dR)))) (fun s k b hs hk=>B4 b hk (vS ok hs).1 (vS ok hs).2) (fun _ _ _=>dN) r ([],[]) none none (iQ.first W) hr
  have hf:∀Wl,jM Wl nJ (cn (aF (aq 3) (aF (aq 4) bT))) rF [some (.d (ao W)),some (.d (.list (r.map dR))),some (.d (dB [] [])),none,none]=some (.nx [some (.d (ao W)),some (.d (.list (r.map dR))),some (.d (dB (eP W ([],[]) r).1 (eP W ([],[]) r).2)),a,b]):=fun Wl=>by
    have hi:nJ [some (.d (ao W)),some (.d (.list (r.map dR))),some (.d (dB [] [])),none,none]=some (r.map dR,[],[some (.d (ao W)),some (.d (.list (r.map dR))),some (.d (dB [] [])),none,none]):=by
      generalize ao W=w
      generalize r.map dR=rs
      rfl
    exact(jN hi).trans h
  generalize dB (eP W ([],[]) r).1 (eP W ([],[]) r).2=D at*
  generalize ao W=w at*
  generalize r.map dR=rs at*
  unfold dB at hf
  simp only [Qv] at hf
  simp? [jI,xW,hf]
theorem Eg{W:aR}{r:List (Int × Bool)}(hr:r.length≤16∧∀p∈r,h8 W p.1):p6 [.d (ao W),.d (.list (r.map dR))]=some (.d (.int (kw W r)),[.d (ao W),.d (.list (r.map dR))]):=by
  have g1':∀e:En,dC e (.d (ao W)) (.d (.int 1))=some (.d (.tuple (W.ties.map ci))):=fun e=>by rw [bS,eJ,cY];rfl
  obtain⟨t',e1,hf⟩:=fD (cs:=[some (.d (ao W))]) (g:=cn (aF (aq 1) (aF (aq 2) bT))) (ft:=uM) (fe:=mi) (b:=fun d=>boolD (rq d)) (y:=fun d=>.int (W.tie (oG (q5 d))).worth) (u:=fun d=>[some (.d (q5 d)),some (.d (rq d))]) 2 (r.map dR) [none,none] [] rfl (fun x hx t ht=>by
    obtain⟨p,hp,rfl⟩:=Pw hx
    match t,ht with
    | [a1,a2],_=>rfl) (fun x hx=>rfl) (fun x hx=>by
    obtain⟨p,hp,rfl⟩:=Pw hx
    rfl) (fun x hx _=>by
    obtain⟨p,hp,rfl⟩:=Pw hx
    have ai:=fZ (W:=W) (k:=p.1) (hr.2 p hp)
    show mi [some (.d (ao W)),some (.d (.int p.1)),some (.d (.bool p.2))]=some (.d (.int (W.tie p.1).worth),[some (.d (ao W)),some (.d (.int p.1)),some (.d (.bool p.2))])
    unfold ci at ai g1'
    generalize (W.tie p.1).worth=w at*
    generalize (W.ties.map fun t=>PyData.tuple [.int t.one,.int t.other,.tuple [.int t.top,.int t.bot],.int t.worth])=TT at*
    simp? [mi,g1',ai]) (by simp;lia)
  rw [QS,Gj] at hf
  have hv:=wf (cp:=[(0,"_law_web_here")]) (nT:=2) (fi:=u_) (e:=[some (.d (ao W)),some (.d (.list (r.map dR)))]) (own:=[]) rfl rfl hf rfl
  have s:=fun e:En=>JW (e:=e) (ws:=(j0 r).map fun k=>(W.tie k).worth)
  unfold kw
  generalize ((j0 r).map fun k=>(W.tie k).worth).sum=w at*
  generalize ((j0 r).map fun k=>(W.tie k).worth).map PyData.int=A at*
  simp? [p6,zT,hv,s]
def wI(o:Option Int):Int:=o.elim (-1) id
def sL(r:List (Int × Bool))(o:Option Int):List PD:=[.list (r.map dR),.int (wI o)]
theorem y8{r:List (Int × Bool)}(hl:r.length≤1000){x0 x1 x2 x4:Option Sv}:cf [] 2 mG (cn (aF (aq 0) (aF (aq 1) bT))) jv jz [x0,x1,x2,some (.d (.list (r.map dR))),x4]=some (.l ((j0 r).map .int),[x0,x1,x2,some (.d (.list (r.map dR))),x4]):=by
  obtain⟨t',e1,hf⟩:=fD (cs:=[]) (g:=cn (aF (aq 0) (aF (aq 1) bT))) (ft:=jv) (fe:=jz) (b:=fun d=>boolD (rq d)) (y:=q5) (u:=fun d=>[some (.d (q5 d)),some (.d (rq d))]) 2 (r.map dR) [none,none] [] rfl (fun x hx t ht=>by
    obtain⟨p,hp,rfl⟩:=Pw hx
    match t,ht with
    | [a1,a2],_=>rfl) (fun x hx=>rfl) (fun x hx=>by
    obtain⟨p,hp,rfl⟩:=Pw hx
    rfl) (fun x hx _=>by
    obtain⟨p,hp,rfl⟩:=Pw hx
    rfl) (by simp;lia)
  rw [QS,tZ] at hf
  exact ip (own:=[]) rfl hf
theorem va{x:Str}(hx:Qe x=true)(e:En):nD false e (.d (.str x)) (.l [.str (Pz "yes"),.str (Pz "no")])=some (.d (.bool (decide (Pz "yes"=x) || decide (Pz "no"=x)))):=by
  have:=pQ (e:=e) (x:=x) (ys:=[Pz "yes",Pz "no"]) hx (fun y hy=>by
    simp only [Qz,QZ,or_false] at hy
    rcases hy with rfl | rfl<;>exact au _)
  simpa using this
theorem HY(o:Option Int)(h:∀k,o=some k→0≤k):decide (wI o < 0)=o.isNone:=by
  cases o with
  | none=>rfl
  | some k=>have:=h k rfl;exact decide_eq_false (show ¬k < 0 by lia)
theorem xI{W:aR}(ok:W.Ok){r:List (Int × Bool)}{o:Option Int}(hr:lj W ([],[]) r):aZ [.d (ao W),.l (sL r o),.d (.str (Pz "may"))]=some (.d (.str (iI (W.can (eP W ([],[]) r).1 (eP W ([],[]) r).2))),[.d (ao W),.l (sL r o),.d (.str (Pz "may"))]):=by
  have st:=hr.st ok (iQ.first W)
  have h1:=yM ok hr
  have h3:=zF ok (taken:=(eP W ([],[]) r).2) st.inw (by have:=(vS ok st).1;lia)
  obtain⟨c1,c2⟩:=z5 ok (a:=(eP W ([],[]) r).1) (b:=(eP W ([],[]) r).2)
  have h2:=Ff c1 c2
  have q1:=va (x:=Pz "may") (au _)
  have d1:decide (Pz "yes"=Pz "may")=false:=by decide+kernel
  have d2:decide (Pz "no"=Pz "may")=false:=by decide+kernel
  rw [d1,d2] at q1
  have q2:=HK (a:="may") (b:="back") (by decide+kernel)
  have q4:=Ik "may"
  unfold sL
  generalize iI (W.can (eP W ([],[]) r).1 (eP W ([],[]) r).2)=RES at*
  generalize (W.can (eP W ([],[]) r).1 (eP W ([],[]) r).2).map PyData.int=KS at*
  generalize dB (eP W ([],[]) r).1 (eP W ([],[]) r).2=D at*
  generalize r.map dR=rs at*
  generalize wI o=wt at*
  generalize ao W=w at*
  simp? [aZ,di,m7,q1,q2,q4,h1,h2,h3]
theorem v_{W:aR}(ok:W.Ok){r:List (Int × Bool)}{o:Option Int}(hr:lj W ([],[]) r):aZ [.d (ao W),.l (sL r o),.d (.str (Pz "kept"))]=some (.d (.str (pY W r)),[.d (ao W),.l (sL r o),.d (.str (Pz "kept"))]):=by
  have hl:=hr.len ok
  obtain⟨c1,c2⟩:=Ay ok hr
  have h2:=Ff c1 (by lia)
  have h3:=Eg (W:=W) (r:=r) ⟨hl,hr.inw⟩
  obtain⟨w0,w1⟩:=ES ok (r:=r) ⟨hl,hr.inw⟩
  have q1:=va (x:=Pz "kept") (au _)
  have d1:decide (Pz "yes"=Pz "kept")=false:=by decide+kernel
  have d2:decide (Pz "no"=Pz "kept")=false:=by decide+kernel
  rw [d1,d2] at q1
  have q2:=HK (a:="kept") (b:="back") (by decide+kernel)
  have q4:=HK (a:="kept") (b:="may") (by decide+kernel)
  have s4:∀e:En,g1 eY e [.d (.int (kw W r))]=some (.d (.str (nS (kw W r)))):=fun e=>eK w0 (by lia)
  have hc:=fun x0 x1 x2 x4=>y8 (r:=r) (x0:=x0) (x1:=x1) (x2:=x2) (x4:=x4) (by lia)
  have rl:(iI (j0 r)).length≤1000:=BH c1 (by lia)
  have nl:=hX w0 (by lia:kw W r < 1000000)
  have sp:(Pz " ").length=1:=by decide
  have t1:∀e:En,ba e (.d (.str (iI (j0 r)))) (.d (.str (Pz " ")))=some (.d (.str (iI (j0 r)++Pz " "))):=fun e=>dH (by lia)
  have t2:∀e:En,ba e (.d (.str (iI (j0 r)++Pz " "))) (.d (.str (nS (kw W r))))=some (.d (.str (iI (j0 r)++Pz " "++nS (kw W r)))):=fun e=>dH (by rw [ph];lia)
  unfold pY sL
  generalize iI (j0 r)++Pz " "++nS (kw W r)=RES at*
  generalize iI (j0 r)++Pz " "=RE at*
  generalize iI (j0 r)=RO at*
  generalize nS (kw W r)=NW at*
  generalize kw W r=wt at*
  generalize (j0 r).map PyData.int=KS at*
  generalize r.map dR=rs at*
  generalize wI o=wo at*
  generalize ao W=w at*
  simp? [aZ,di,m7,q1,q2,q4,h2,h3,s4,hc,t1,t2]
theorem LA(o:Option Int)(h:∀k,o=some k→0≤k):decide (0≤wI o)= !o.isNone:=by
  cases o with
  | none=>rfl
  | some k=>have:=h k rfl;exact decide_eq_true (show 0≤k by lia)
theorem v0{W:aR}{r:List (Int × Bool)}{o:Option Int}(hl:r.length≤16)(ho:∀k,o=some k→0≤k):aZ [.d (ao W),.l (sL r o),.d (.str (Pz "back"))]=some (.d (.str (xZ r o)),[.d (ao W),.l (sL (zO r o) none),.d (.str (Pz "back"))]):=by
  have q1:=va (x:=Pz "back") (au _)
  have d1:decide (Pz "yes"=Pz "back")=false:=by decide+kernel
  have d2:decide (Pz "no"=Pz "back")=false:=by decide+kernel
  rw [d1,d2] at q1
  have q2:=Ik "back"
  have w1:=HY o ho
  have gl:∀e:En,wK e (.d (.int (wI o))) (.d (.int 0))=some (.d (.bool o.isNone)):=fun e=>by
    show some (Rv.d (.bool (decide (wI o < 0))))=_
    rw [w1]
  have gn:∀e:En,bH false e (.d (.list (r.map dR))) (.l [])=some (.d (.bool r.isEmpty)):=fun e=>by
    rw [uZ (y6 r)]
    cases r<;>rfl
  have hlm:((r.map dR).length:Int)=(r.length:Int):=by simp
  have gi:∀e:En,g1 q_ e [.d (.bool o.isNone)]=some (.d (.int (if o.isNone=true then 1 else 0))):=fun e=>by cases o.isNone<;>rfl
  have cut:r≠[]∨o≠none→L2.cutD (r.map dR) none (some ((r.length:Int) - (if o.isNone=true then 1 else 0)))=(zO r o).map dR:=fun h=>by
    cases o with
    | some k=>
      show L2.cutD (r.map dR) none (some ((r.length:Int) - 0))=r.map dR
      rw [Int.sub_zero]
      unfold L2.cutD
      rw [show HT.sIx (r.map dR).length 0 none=0 from rfl,HT.sIx_nat,Ud]
      exact Uw (by simp)
    | none=>
      have hp:0 < r.length:=List.length_pos_iff.mpr (h.elim id fun z=>absurd rfl z)
      show L2.cutD (r.map dR) none (some ((r.length:Int) - 1))=r.dropLast.map dR
      rw [show(r.length:Int) - 1=((r.length - 1:Nat):Int) by lia]
      unfold L2.cutD
      rw [show HT.sIx (r.map dR).length 0 none=0 from rfl,HT.sIx_nat,Ud,UH,List.map_take]
      simp
  have i0:zi 2 0=some 0:=rfl
  have i1:zi 2 (-0)=some 0:=rfl
  have i2:zi 2 1=some 1:=rfl
  by_cases hn:r=[]∧o=none
  · obtain⟨rfl,rfl⟩:=hn
    have eb:xZ [] none=Pz "NoAsk":=rfl
    have gl':∀e:En,wK e (.d (.int (-1))) (.d (.int 0))=some (.d (.bool true)):=gl
    have gn':∀e:En,bH false e (.d (.list [])) (.l [])=some (.d (.bool true)):=gn
    rw [eb]
    unfold zO sL
    show aZ [.d (ao W),.l [.list [],.int (-1)],.d (.str (Pz "back"))]=some (.d (.str (Pz "NoAsk")),[.d (ao W),.l [.list [],.int (-1)],.d (.str (Pz "back"))])
    generalize ao W=w at*
    simp? [aZ,di,m7,q1,q2,gl',gn']
  · have hn':r≠[]∨o≠none:=by
      by_cases c:r=[]
      · exact .inr fun z=>hn ⟨c,z⟩
      · exact .inl c
    have hc:=cut hn'
    have hb:(o.isNone&&r.isEmpty)=false:=by
      rcases hn' with z | z
      · cases r with
        | nil=>exact absurd rfl z
        | cons p t=>cases o.isNone<;>rfl
      · cases o with
        | none=>exact absurd rfl z
        | some k=>rfl
    have eb:xZ r o=Pz "back":=by
      unfold xZ
      exact if_neg (by revert hb;cases r.isEmpty<;>cases o.isNone<;>simp)
    have gsl:∀e:En,CL e (.d (.list (r.map dR))) none (some ((r.length:Int) - (if o.isNone=true then 1 else 0)))=some (.l ((zO r o).map dR)):=fun e=>by
      unfold CL
      simp only [cU,Qy]
      rw [hc]
      rfl
    rw [eb]
    unfold sL
    generalize (zO r o).map dR=rs' at*
    generalize hg:(if o.isNone=true then(1:Int) else 0)=dd at*
    generalize wI o=wt at*
    generalize r.map dR=rs at*
    generalize r.isEmpty=b1 at*
    generalize o.isNone=b2 at*
    generalize (r.length:Int)=L at*
    generalize ao W=w at*
    have wn:wI none= -1:=rfl
    rw [wn]
    cases b2 with
    | false=>simp? [aZ,di,m7,q1,q2,gl,gn,hlm,gi,gsl,i0,i1,i2,qz,lW,uB,bC,bx]
    | true=>
      have hb1:b1=false:=hb
      rw [hb1] at gn
      simp? [aZ,di,m7,q1,q2,gl,gn,hlm,gi,gsl,i0,i1,i2,qz,lW,uB,bC,bx]
theorem C5{W:aR}{a t:List Int}{k:Int}(h:W.may a t k=true):k∉a:=by
  simp only [aR.may,QD,Bool.not_eq_true',List.contains_eq_mem,decide_eq_false_iff_not] at h
  intro z
  simp_all
theorem yC(ks:List Int):Qe (iI ks)=true:=by
  unfold iI
  split
  · exact au _
  · exact qM (au _) _ fun t ht=>by
      obtain⟨k, -,rfl⟩:=Pw ht
      exact p8 k
theorem As(W:aR)(r:List (Int × Bool)):Qe (pY W r)=true:=io (io (yC _) (au _)) (p8 _)
theorem Cy(W:aR)(k:Int)(b:Bool):Qe (uJ W k b)=true:=by
  unfold uJ
  split
  · exact io (au _) (p8 _)
  · exact au _
structure Iv (W:aR) (r:List (Int × Bool)) (o:Option Int):Prop where
  run:lj W ([],[]) r
  wait:∀k,o=some k→h8 W k∧k∉(eP W ([],[]) r).1
theorem FC(r:List (Int × Bool))(o:Option Int):Qe (xZ r o)=true:=by
  unfold xZ
  split<;>exact au _
theorem IB{W:aR}{r:List (Int × Bool)}{o:Option Int}(h:Iv W r o):Iv W (zO r o) none:=⟨by
  cases o with
  | some k=>exact h.run
  | none=>show lj W ([],[]) r.dropLast;rw [UH];exact h.run.take _,fun k z=>by cases z⟩
theorem KY{rs:List PD}(hl:rs.length≤1000)(e:En)(d:PD):rV e (.d (.list rs)) (.l [d])=some (.l (rs++[d])):=by
  have:rs.length+[d].length≤1000000:=by rw [Uu];lia
  unfold rV
  simp only [cU]
  rw [if_pos this]
theorem Fj(b:Bool)(e:En):nD false e (.d (.str (uD b))) (.l [.str (Pz "yes"),.str (Pz "no")])=some (.d (.bool true)):=by
  cases b with
  | true=>
    have:=va (x:=Pz "yes") (au _) e
    rw [show(decide (Pz "yes"=Pz "yes") || decide (Pz "no"=Pz "yes"))=true from by decide+kernel] at this
    exact this
  | false=>
    have:=va (x:=Pz "no") (au _) e
    rw [show(decide (Pz "yes"=Pz "no") || decide (Pz "no"=Pz "no"))=true from by decide+kernel] at this
    exact this
theorem Kc(b:Bool)(e:En):bH false e (.d (.str (uD b))) (.d (.str (Pz "yes")))=some (.d (.bool b)):=by
  cases b with
  | true=>exact Ik "yes" e false
  | false=>exact HK (a:="no") (b:="yes") (by decide+kernel) e false
theorem xJ{W:aR}{r:List (Int × Bool)}(b:Bool):aZ [.d (ao W),.l (sL r none),.d (.str (uD b))]=some (.d (.str (Pz "NoAsk")),[.d (ao W),.l (sL r none),.d (.str (uD b))]):=by
  have q1:=Fj b
  have gl:∀e:En,wK e (.d (.int (-1))) (.d (.int 0))=some (.d (.bool true)):=fun e=>rfl
  show aZ [.d (ao W),.l [.list (r.map dR),.int (-1)],.d (.str (uD b))]=some (.d (.str (Pz "NoAsk")),[.d (ao W),.l [.list (r.map dR),.int (-1)],.d (.str (uD b))])
  generalize ao W=w at*
  generalize r.map dR=rs at*
  generalize uD b=y at*
  simp? [aZ,di,m7,q1,gl]
theorem zI{W:aR}(ok:W.Ok){r:List (Int × Bool)}(hl:r.length≤16){k:Int}(hk:h8 W k)(b:Bool):aZ [.d (ao W),.l (sL r (some k)),.d (.str (uD b))]=some (.d (.str (uJ W k b)),[.d (ao W),.l (sL (r++[(k,b)]) none),.d (.str (uD b))]):=by
  have o:=hk.ok ok
  have q1:=Fj b
  have q2:=Kc b
  have gl:∀e:En,wK e (.d (.int k)) (.d (.int 0))=some (.d (.bool false)):=fun e=>by
    show some (Rv.d (.bool (decide (k < 0))))=_
    rw [decide_eq_false (by have:=hk.1;lia)]
  have ga:=fun e=>KY (rs:=r.map dR) (by rw [Qh];lia) e (.tuple [.int k,.bool b])
  have g1':∀e:En,dC e (.d (ao W)) (.d (.int 1))=some (.d (.tuple (W.ties.map ci))):=fun e=>by rw [bS,eJ,cY];rfl
  have ai:=fZ (W:=W) (k:=k) hk
  have s4:∀e:En,g1 eY e [.d (.int (W.tie k).worth)]=some (.d (.str (nS (W.tie k).worth))):=fun e=>eK o.w0 (by have:=o.w1;lia)
  have s6:∀e:En,ba e (.d (.str (Pz "kept "))) (.d (.str (nS (W.tie k).worth)))=some (.d (.str (Pz "kept "++nS (W.tie k).worth))):=fun e=>dH (by
    have:=hX o.w0 (by have:=o.w1;lia:(W.tie k).worth < 1000000)
    have:(Pz "kept ").length=5:=by decide
    lia)
  have e1:(r++[(k,b)]).map dR=r.map dR++[.tuple [.int k,.bool b]]:=by simp [dR]
  have gi:∀e:En,g1 q_ e [.d (.bool b)]=some (.d (.int (if b=true then 1 else 0))):=fun e=>by cases b<;>rfl
  have s7:atI [PyData.str (Pz "gone"),PyData.str (Pz "kept "++nS (W.tie k).worth)] (if b=true then 1 else 0)=some (.str (uJ W k b)):=by cases b<;>rfl
  have i1:zi 2 0=some 0:=rfl
  have i2:zi 2 1=some 1:=rfl
  unfold sL
  rw [e1]
  show aZ [.d (ao W),.l [.list (r.map dR),.int k],.d (.str (uD b))]=some (.d (.str (uJ W k b)),[.d (ao W),.l [.list (r.map dR++[.tuple [.int k,.bool b]]),.int (-1)],.d (.str (uD b))])
  unfold ci at ai g1'
  generalize uJ W k b=AN at*
  generalize Pz "kept "++nS (W.tie k).worth=RS at*
  generalize nS (W.tie k).worth=y at*
  generalize (W.tie k).worth=wt at*
  generalize (W.ties.map fun t=>PyData.tuple [.int t.one,.int t.other,.tuple [.int t.top,.int t.bot],.int t.worth])=TT at*
  generalize uD b=yy at*
  generalize r.map dR=rs at*
  generalize ao W=w at*
  simp? [aZ,di,m7,q1,q2,gl,ga,g1',ai,s4,s6,s7,gi,i1,i2,qz,lW]
theorem Ei{W:aR}(ok:W.Ok){r:List (Int × Bool)}{o:Option Int}{k:Int}(hr:lj W ([],[]) r)(ho:∀k,o=some k→0≤k)(hk:h8 W k)(g:Bool)(hg:g=(o.isNone&&W.may (eP W ([],[]) r).1 (eP W ([],[]) r).2 k)):eL [.d (ao W),.l (sL r o),.d (.int k)]=some (.d (.str (if g=true then Pz "asked" else Pz "NoAsk")),[.d (ao W),.l (sL r (if g=true then some k else o)),.d (.int k)]):=by
  have st:=hr.st ok (iQ.first W)
  have h1:=yM ok hr
  have h2:=Fh ok (taken:=(eP W ([],[]) r).2) st.inw (by have:=(vS ok st).1;lia) hk
  have gg:∀e:En,Cn e (.d (.int (wI o))) (.d (.int 0))=some (.d (.bool (!o.isNone))):=fun e=>by
    show some (Rv.d (.bool (decide (0≤wI o))))=_
    rw [LA o ho]
  have i2:zi 2 1=some 1:=rfl
  have wk:wI (some k)=k:=rfl
  unfold sL
  generalize W.may (eP W ([],[]) r).1 (eP W ([],[]) r).2 k=mb at*
  generalize dB (eP W ([],[]) r).1 (eP W ([],[]) r).2=D at*
  generalize r.map dR=rs at*
  generalize ao W=w at*
  cases hb:o.isNone with
  | false=>
    rw [hb] at hg gg
    subst hg
    simp? [eL,kS,m7,gg]
  | true=>
    rw [hb] at hg gg
    cases mb with
    | true=>
      subst hg
      simp? [eL,kS,m7,gg,h1,h2,i2,wk,qz,lW]
    | false=>
      subst hg
      simp? [eL,kS,m7,gg,h1,h2]
inductive L9 (W:aR):Str→Prop
  | ask {k:Int} (h:h8 W k):L9 W (Lk k)
  | yn (b:Bool):L9 W (uD b)
  | may:L9 W (Pz "may")
  | kept:L9 W (Pz "kept")
  | back:L9 W (Pz "back")
def D9(W:aR)(x:Str)(r:List (Int × Bool))(o:Option Int)(r':List (Int × Bool))(o':Option Int)(t:Str):Prop:=
  jT [.d (ao W),.l (sL r o),.d (.str x)]=some (.d (.str t),[.d (ao W),.l (sL r' o'),.d (.str x)])∧aG ([none,some (.d (.str x))],[(.s 0,dc W r o)])=some (.str t,[(.s 0,dc W r' o')])
theorem uW{W:aR}{r r':List (Int × Bool)}{o o':Option Int}{x t:Str}(h:aZ [.d (ao W),.l (sL r o),.d (.str x)]=some (.d (.str t),[.d (ao W),.l (sL r' o'),.d (.str x)]))(hl:x.length≤1000000)(hs:Qe (QI x none (some 4))=true)(hn:QI x none (some 4)≠Pz "ask "):jT [.d (ao W),.l (sL r o),.d (.str x)]=some (.d (.str t),[.d (ao W),.l (sL r' o'),.d (.str x)]):=by
  have q1:∀e:En,bH false e (.d (.str (QI x none (some 4)))) (.d (.str (Pz "ask ")))=some (.d (.bool false)):=fun e=>by
    rw [ej hs (au _)];simp [hn]
  generalize sL r o=S0 at*
  generalize sL r' o'=S1 at*
  generalize ao W=w at*
  simp? [jT,zS,gN,bC,bx,bJ,hl,q1,h]
theorem IH{W:aR}{r:List (Int × Bool)}{o o':Option Int}{k:Int}{t:Str}(k0:0≤k)(k1:k < 16)(h:eL [.d (ao W),.l (sL r o),.d (.int k)]=some (.d (.str t),[.d (ao W),.l (sL r o'),.d (.int k)])):jT [.d (ao W),.l (sL r o),.d (.str (Lk k))]=some (.d (.str t),[.d (ao W),.l (sL r o'),.d (.str (Lk k))]):=by
  have s1:=K' k0 k1
  have s2:=La k0 k1
  have sl:(Lk k).length≤1000000:=by have:=xa k0 k1;lia
  obtain⟨a1,a2,a3⟩:=GB k0 k1
  have i1:∀e:En,g1 iy e [.d (.str (nS k))]=some (.d (.int k)):=fun e=>by
    simp only [g1,iy,bJ,Qb];rw [if_pos (by lia),a3];rfl
  have q1:=Ik "ask "
  generalize sL r o=S0 at*
  generalize sL r o'=S1 at*
  generalize ao W=w at*
  generalize Lk k=x at*
  generalize nS k=y at*
  simp? [jT,zS,gN,bC,bx,bJ,sl,s1,s2,i1,q1,h]
theorem d9{W:aR}(ok:W.Ok){r:List (Int × Bool)}{o:Option Int}(h:Iv W r o){x:Str}(hx:L9 W x):∃r' o' t,Iv W r' o'∧Qe t=true∧D9 W x r o r' o' t:=by
  have hl:=h.run.len ok
  have ho:∀k,o=some k→0≤k:=fun k z=>(h.wait k z).1.1
  cases hx with
  | ask hk=>
    rename_i k
    obtain⟨g,hg⟩:∃g,g=(o.isNone&&W.may (eP W ([],[]) r).1 (eP W ([],[]) r).2 k):=⟨_,rfl⟩
    have wl:=ok.len
    refine⟨r,if g=true then some k else o,if g=true then Pz "asked" else Pz "NoAsk",⟨h.run,fun j z=>?_⟩,by split<;>exact au _,IH hk.1 (by have:=hk.2;lia) (Ei ok h.run ho hk g hg),D7 ok hk (FN ok h.run hk g hg)⟩
    by_cases c:g=true
    · rw [if_pos c] at z
      cases z
      rw [c] at hg
      exact⟨hk,C5 (UJ.mp hg.symm).2⟩
    · rw [if_neg c] at z
      exact h.wait j z
  | yn b=>
    have hw:(uD b).length≤1000000∧Qe (QI (uD b) none (some 4))=true∧QI (uD b) none (some 4)≠Pz "ask ":=by
      cases b
      · exact⟨by decide,by decide+kernel,by decide+kernel⟩
      · exact⟨by decide,by decide+kernel,by decide+kernel⟩
    cases o with
    | none=>exact⟨r,none,_,h,au _,uW (xJ b) hw.1 hw.2.1 hw.2.2,BN b (CB b)⟩
    | some k=>
      obtain⟨hk,hn⟩:=h.wait k rfl
      exact⟨r++[(k,b)],none,_,⟨h.run.snoc hk hn,fun j z=>by cases z⟩,Cy _ _ _,uW (zI ok hl hk b) hw.1 hw.2.1 hw.2.2,BN b (FL ok hl hk b)⟩
  | may=>exact⟨r,o,_,h,yC _,uW (xI ok h.run) (by decide) (by decide+kernel) (by decide+kernel),D8 ok h.run⟩
  | kept=>exact⟨r,o,_,h,As _ _,uW (v_ ok h.run) (by decide) (by decide+kernel) (by decide+kernel),BL ok h.run⟩
  | back=>exact⟨_,_,_,IB h,FC _ _,uW (v0 hl ho) (by decide) (by decide+kernel) (by decide+kernel),BK⟩
theorem B6{W:aR}(ok:W.Ok){ds:List Int}(hd:kX ds):∃x,L9 W x∧fH [.l (ds.map .int),.d (ao W)]=some (.d (.str x),[.l (ds.tail.map .int),.d (ao W)]):=by
  have n1:=xF ds
  obtain⟨a0,a1⟩:=AS hd
  have wl:=ok.len
  have g1':∀e:En,dC e (.d (ao W)) (.d (.int 1))=some (.d (.tuple (W.ties.map ci))):=fun e=>by rw [bS,eJ,cY];rfl
  have gl:∀e:En,g1 dJ e [.d (.tuple (W.ties.map ci))]=some (.d (.int (W.ties.length:Int))):=fun e=>by rw [gG,Qh]
  have g12:∀e:En,bB e (.d (.int (nx ds))) (.d (.int 12))=some (.d (.int (nx ds % 12))):=fun e=>a9 (by decide)
  have gd:∀e:En,dq e (.d (.int (nx ds))) (.d (.int 12))=some (.d (.int (nx ds / 12))):=fun e=>eI (by decide) (K0 (by decide) (by decide))
  have gt0:∀e:En,Co e (.d (.int (W.ties.length:Int))) (.d (.int 0))=some (.d (.bool (decide (0 < (W.ties.length:Int))))):=fun e=>rfl
  have key:∀w:Str,(w=Pz "ask"∨(w≠Pz "ask"∧L9 W w))→Qe w=true→atI [PyData.str (Pz "ask"),.str (Pz "ask"),.str (Pz "ask"),.str (Pz "yes"),.str (Pz "yes"),.str (Pz "no"),.str (Pz "no"),.str (Pz "may"),.str (Pz "kept"),.str (Pz "back"),.str (Pz "ask"),.str (Pz "yes")] (nx ds % 12)=some (.str w)→
      ∃x,L9 W x∧fH [.l (ds.map .int),.d (ao W)]=some (.d (.str x),[.l (ds.tail.map .int),.d (ao W)]):=fun w hw hok hat=>by
    have q1:∀e:En,bH false e (.d (.str w)) (.d (.str (Pz "ask")))=some (.d (.bool (decide (w=Pz "ask")))):=fun e=>by
      rw [ej hok (au _)];simp
    rcases hw with rfl | ⟨hne,hL⟩
    · rw [show decide (Pz "ask"=Pz "ask")=true from by decide+kernel] at q1
      by_cases hp:0 < (W.ties.length:Int)
      · have gm:∀e:En,bB e (.d (.int (nx ds / 12))) (.d (.int (W.ties.length:Int)))=some (.d (.int (nx ds / 12 % (W.ties.length:Int)))):=fun e=>a9 hp
        have k0:0≤nx ds / 12 % (W.ties.length:Int):=SE _ (by lia)
        have k1:nx ds / 12 % (W.ties.length:Int) < (W.ties.length:Int):=SF _ hp
        refine⟨Lk (nx ds / 12 % (W.ties.length:Int)),.ask ⟨k0,k1⟩,?_⟩
        have s4:∀e:En,g1 eY e [.d (.int (nx ds / 12 % (W.ties.length:Int)))]=some (.d (.str (nS (nx ds / 12 % (W.ties.length:Int))))):=fun e=>eK k0 (by lia)
        have s5:∀e:En,ba e (.d (.str (Pz "ask "))) (.d (.str (nS (nx ds / 12 % (W.ties.length:Int)))))=some (.d (.str (Lk (nx ds / 12 % (W.ties.length:Int))))):=fun e=>dH (by
          have:=hX k0 (by lia:nx ds / 12 % (W.ties.length:Int) < 1000000)
          have:(Pz "ask ").length=4:=by decide
          lia)
        rw [decide_eq_true hp] at gt0
        generalize Lk (nx ds / 12 % (W.ties.length:Int))=lk at*
        generalize nS (nx ds / 12 % (W.ties.length:Int))=nk at*
        generalize nx ds / 12 % (W.ties.length:Int)=kk at*
        generalize nx ds / 12=n12 at*
        generalize nx ds % 12=m12 at*
        generalize nx ds=n0 at*
        generalize (W.ties.length:Int)=L at*
        generalize W.ties.map ci=TT at*
        generalize ao W=wb at*
        generalize ds.tail.map PyData.int=d1 at*
        generalize ds.map PyData.int=d0 at*
        simp? [fH,s_,n1,g12,hat,q1,g1',gl,gt0,gd,gm,s4,s5]
      · refine⟨Pz "may",.may,?_⟩
        rw [decide_eq_false hp] at gt0
        generalize nx ds % 12=m12 at*
        generalize nx ds=n0 at*
        generalize (W.ties.length:Int)=L at*
        generalize W.ties.map ci=TT at*
        generalize ao W=wb at*
        generalize ds.tail.map PyData.int=d1 at*
        generalize ds.map PyData.int=d0 at*
        simp? [fH,s_,n1,g12,hat,q1,g1',gl,gt0]
    · rw [decide_eq_false hne] at q1
      refine⟨w,hL,?_⟩
      generalize nx ds % 12=m12 at*
      generalize nx ds=n0 at*
      generalize ao W=wb at*
      generalize ds.tail.map PyData.int=d1 at*
      generalize ds.map PyData.int=d0 at*
      simp? [fH,s_,n1,g12,hat,q1]
  have r0:0≤nx ds % 12:=SE _ (by decide)
  have r1:nx ds % 12 < 12:=SF _ (by decide)
  have yes:L9 W (Pz "yes"):=.yn true
  have no:L9 W (Pz "no"):=.yn false
  have hc:nx ds % 12=0∨nx ds % 12=1∨nx ds % 12=2∨nx ds % 12=3∨nx ds % 12=4∨nx ds % 12=5∨nx ds % 12=6∨nx ds % 12=7∨nx ds % 12=8∨nx ds % 12=9∨nx ds % 12=10∨nx ds % 12=11:=by lia
  rcases hc with h | h | h | h | h | h | h | h | h | h | h | h
  · exact key (Pz "ask") (.inl rfl) (au _) (by rw [h];rfl)
  · exact key (Pz "ask") (.inl rfl) (au _) (by rw [h];rfl)
  · exact key (Pz "ask") (.inl rfl) (au _) (by rw [h];rfl)
  · exact key (Pz "yes") (.inr ⟨by decide+kernel,yes⟩) (au _) (by rw [h];rfl)
  · exact key (Pz "yes") (.inr ⟨by decide+kernel,yes⟩) (au _) (by rw [h];rfl)
  · exact key (Pz "no") (.inr ⟨by decide+kernel,no⟩) (au _) (by rw [h];rfl)
  · exact key (Pz "no") (.inr ⟨by decide+kernel,no⟩) (au _) (by rw [h];rfl)
  · exact key (Pz "may") (.inr ⟨by decide+kernel,.may⟩) (au _) (by rw [h];rfl)
  · exact key (Pz "kept") (.inr ⟨by decide+kernel,.kept⟩) (au _) (by rw [h];rfl)
  · exact key (Pz "back") (.inr ⟨by decide+kernel,.back⟩) (au _) (by rw [h];rfl)
  · exact key (Pz "ask") (.inl rfl) (au _) (by rw [h];rfl)
  · exact key (Pz "yes") (.inr ⟨by decide+kernel,yes⟩) (au _) (by rw [h];rfl)
def wu:List Str:=[Pz "yes",Pz "no",Pz "may",Pz "best",Pz "bound",Pz "kept",Pz "back"]
theorem zH{W:aR}(ok:W.Ok){x:Str}(hx:Qe x=true):fJ [.d (ao W),.d (.str x)]=some (.d (.bool ((wu.any fun y=>decide (y=x)) || ((QM W.ties.length).any fun k:Nat=>decide (Lk (k:Int)=x)))),[.d (ao W),.d (.str x)]):=by
  have wl:=ok.len
  have g1':∀e:En,dC e (.d (ao W)) (.d (.int 1))=some (.d (.tuple (W.ties.map ci))):=fun e=>by rw [bS,eJ,cY];rfl
  have q1:=fun e=>pQ (e:=e) (x:=x) (ys:=wu) hx (fun y hy=>by
    unfold wu at hy
    simp only [Qz,QZ,or_false] at hy
    rcases hy with rfl | rfl | rfl | rfl | rfl | rfl | rfl<;>exact au _)
  have q1':∀e:En,nD false e (.d (.str x)) (.l [.str (Pz "yes"),.str (Pz "no"),.str (Pz "may"),.str (Pz "best"),.str (Pz "bound"),.str (Pz "kept"),.str (Pz "back")])=some (.d (.bool (wu.any fun y=>decide (y=x)))):=q1
  have q2:=fun e=>pQ (e:=e) (x:=x) (ys:=(QM W.ties.length).map fun k:Nat=>Lk (k:Int)) hx (fun y hy=>by
    obtain⟨k,_,rfl⟩:=Pw hy
    exact yj _)
  rw [List.any_map] at q2
  have gl:∀e:En,g1 dJ e [.d (.tuple (W.ties.map ci))]=some (.d (.int (W.ties.length:Int))):=fun e=>by rw [gG,Qh]
  have hi:kh [some (.d (ao W)),some (.d (.str x))]=some (bg 0 W.ties.length,[],[some (.d (ao W)),some (.d (.str x))]):=by
    refine dr (n:=(W.ties.length:Int)) ?_ (by lia) (by lia)
    generalize (W.ties.length:Int)=L at*
    generalize W.ties.map ci=TT at*
    generalize ao W=wb at*
    simp? [g1',gl]
  obtain⟨t',e1,hf⟩:=fD (cs:=[]) (g:=aq 0) (ft:=gS) (fe:=gj) (b:=fun _=>true) (y:=fun d=>.str (Lk (oG d))) (u:=fun d=>[some (.d d)]) 1 (bg 0 W.ties.length) [none] [] rfl (fun x hx t ht=>by
    match t,ht with
    | [a],_=>rfl) (fun x hx=>rfl) (fun x hx=>rfl) (fun z hz _=>by
    obtain⟨i,hi⟩:=SY hz
    obtain⟨ez,hz2⟩:=dw hi
    rw [Ts] at ez
    subst ez
    have s4:∀e:En,g1 eY e [.d (.int (i:Int))]=some (.d (.str (nS (i:Int)))):=fun e=>eK (by lia) (by lia)
    have s5:∀e:En,ba e (.d (.str (Pz "ask "))) (.d (.str (nS (i:Int))))=some (.d (.str (Lk (i:Int)))):=fun e=>dH (by
      have:=hX (n:=(i:Int)) (by lia) (by lia)
      have:(Pz "ask ").length=4:=by decide
      lia)
    show gj [some (.d (.int (i:Int)))]=some (.d (.str (Lk (i:Int))),[some (.d (.int (i:Int)))])
    generalize Lk (i:Int)=lk at*
    generalize nS (i:Int)=nk at*
    generalize (i:Int)=ii at*
    simp? [gj,s4,s5]) (by rw [eE];simp;lia)
  have em:((bg 0 W.ties.length).filter fun _=>true).map (fun d=>PyData.str (Lk (oG d)))=((QM W.ties.length).map fun k:Nat=>Lk (k:Int)).map .str:=by
    rw [UG.mpr (fun _ _=>rfl)]
    unfold bg
    rw [Rq,Rq]
    apply List.map_congr_left
    intro k _
    show PyData.str (Lk (0+(k:Int)))=PyData.str (Lk (k:Int))
    rw [Ts]
  rw [QS,em] at hf
  have hv:cf [] 1 kh (aq 0) gS gj [some (.d (ao W)),some (.d (.str x))]=some (.l (((QM W.ties.length).map fun k:Nat=>Lk (k:Int)).map .str),[some (.d (ao W)),some (.d (.str x))]):=ip (own:=[]) hi hf
  cases hw:(wu.any fun y=>decide (y=x)) with
  | true=>
    rw [hw] at q1'
    rw [Bool.true_or]
    clear hv hf em
    generalize ao W=wb at*
    simp? [fJ,nG,q1']
  | false=>
    rw [hw] at q1'
    rw [Bool.false_or]
    simp only [Function.comp_def] at q2
    generalize ((QM W.ties.length).any fun k:Nat=>decide (Lk (k:Int)=x))=bb at*
    generalize ((QM W.ties.length).map fun k:Nat=>Lk (k:Int)).map PyData.str=LL at*
    generalize ao W=wb at*
    simp? [fJ,nG,q1',hv,q2]
def A1:List Str:=[Pz "",Pz " ",Pz "ask",Pz "ask ",Pz "ask  0",Pz " ask 0",Pz "ask 0 ",Pz "ask -1",Pz "ask 00",Pz "ask 01",Pz "ask +1",Pz "ask 0 1"]
def A2:List Str:=[Pz "Ask 0",Pz "ASK 0",Pz "yes ",Pz " yes",Pz "Yes",Pz "yes no",Pz "no 0",Pz "may 0",Pz "best 1",Pz "bound bound",Pz "kep"]
def A3:List Str:=[Pz "kept kept",Pz "backs",Pz "back 1",Pz "none",Pz "stop",Pz "NoWord",Pz "asked",Pz "ask x",Pz "ask 1.0",Pz "ask 1e1"]
noncomputable def A4(n:Int):List Str:=[Pz "ask "++nS n,Pz "ask 16",Pz "ask 99",Pz "ask 100",Pz "ask "++QJ (Pz "1") 1500,Pz "ask "++QJ (Pz "0") 1500]
def Od(x:Str):Prop:=jS x∧x.length≤3000
theorem Cs:∀x∈A1++A2++A3,Od x:=by
  have h:(A1++A2++A3).all (fun x=>x.cps.toList.all (fun c=>decide (c < 128))&&decide (x.length≤3000))=true:=by decide+kernel
  intro x hx
  have:=Qp.mp h x hx
  rw [QD] at this
  exact⟨jS.lit this.1,by simpa using this.2⟩
theorem ym:(QJ (Pz "1") 1500).length=1500∧(QJ (Pz "1") 1500).cps.toList.all (fun c=>decide (c < 128))=true∧(QJ (Pz "0") 1500).length=1500∧(QJ (Pz "0") 1500).cps.toList.all (fun c=>decide (c < 128))=true:=by decide+kernel
theorem C9:MulOk (Pz "1") 1500:=⟨by decide,fun _ _=>by decide,fun _ _=>by decide⟩
theorem C8:MulOk (Pz "0") 1500:=⟨by decide,fun _ _=>by decide,fun _ _=>by decide⟩
theorem Lf:∀k:Fin 17,(nS (k.val:Int)).cps.toList.all (fun c=>decide (c < 128))=true:=by decide+kernel
theorem AI{n:Int}(h0:0≤n)(h1:n≤16):jS (nS n):=jS.lit (by
  have:=Lf ⟨n.toNat,by lia⟩
  rwa [show(((⟨n.toNat,by lia⟩:Fin 17)).val:Int)=n from Int.toNat_of_nonneg h0] at this)
theorem pq:jS (Pz "ask "):=jS.lit (by decide+kernel)
theorem Im{n:Int}(h0:0≤n)(h1:n≤16):∀x∈A4 n,Od x:=by
  have l4:(Pz "ask ").length=4:=by decide
  intro x hx
  unfold A4 at hx
  simp only [Qz,QZ,or_false] at hx
  obtain⟨m1,m2,m3,m4⟩:=ym
  rcases hx with rfl | rfl | rfl | rfl | rfl | rfl
  · exact⟨pq.app (AI h0 h1),by rw [ph,l4];have:=hX h0 (by lia:n < 1000000);lia⟩
  · exact⟨jS.lit (by decide+kernel),by decide⟩
  · exact⟨jS.lit (by decide+kernel),by decide⟩
  · exact⟨jS.lit (by decide+kernel),by decide⟩
  · exact⟨pq.app (jS.lit m2),by rw [ph,l4,m1];decide⟩
  · exact⟨pq.app (jS.lit m4),by rw [ph,l4,m3];decide⟩
theorem Jb{W:aR}(ok:W.Ok){x:Str}(h:L9 W x):jS x∧x.length≤10:=by
  have wl:=ok.len
  cases h with
  | ask hk=>
    obtain⟨h0,h1⟩:=hk
    exact⟨pq.app (AI h0 (by lia)),xa h0 (by lia)⟩
  | yn b=>cases b<;>exact⟨jS.lit (by decide+kernel),by decide⟩
  | may=>exact⟨jS.lit (by decide+kernel),by decide⟩
  | kept=>exact⟨jS.lit (by decide+kernel),by decide⟩
  | back=>exact⟨jS.lit (by decide+kernel),by decide⟩
theorem JS:(Pz " !#$&'()*+,-./0123456789:;<=>?@ABCDEFGHIJKLMNOPQRSTUVWXYZ[]^_"++Pz "abcdefghijklmnopqrstuvwxyz{|}~").cps.toList.all (fun c=>decide (c < 128))=true∧0 < (Pz " !#$&'()*+,-./0123456789:;<=>?@ABCDEFGHIJKLMNOPQRSTUVWXYZ[]^_"++Pz "abcdefghijklmnopqrstuvwxyz{|}~").length∧(Pz " !#$&'()*+,-./0123456789:;<=>?@ABCDEFGHIJKLMNOPQRSTUVWXYZ[]^_"++Pz "abcdefghijklmnopqrstuvwxyz{|}~").length≤200∧(Pz " !#$&'()*+,-./0123456789:;<=>?@ABCDEFGHIJKLMNOPQRSTUVWXYZ[]^_").length+(Pz "abcdefghijklmnopqrstuvwxyz{|}~").length≤200:=by decide+kernel
theorem xT{α:Type}{xs:List α}{i:Int}(h0:0≤i)(h1:i < (xs.length:Int)):∃x,atI xs i=some x∧x∈xs:=by
  have hl:i.toNat < xs.length:=by lia
  exact⟨xs[i.toNat],by rw [jr h0 (by lia)];exact Rk hl,Th hl⟩
theorem HQ{n:Int}:∃c,jS c∧c.length=1∧lM [.d (.int n)]=some (.d (.str c),[.d (.int n)]):=by
  obtain⟨f1,f2,f3,f4⟩:=JS
  have sc:∀e:En,ba e (.d (.str (Pz " !#$&'()*+,-./0123456789:;<=>?@ABCDEFGHIJKLMNOPQRSTUVWXYZ[]^_"))) (.d (.str (Pz "abcdefghijklmnopqrstuvwxyz{|}~")))=some (.d (.str (Pz " !#$&'()*+,-./0123456789:;<=>?@ABCDEFGHIJKLMNOPQRSTUVWXYZ[]^_"++Pz "abcdefghijklmnopqrstuvwxyz{|}~"))):=fun e=>dH (by lia)
  generalize Pz " !#$&'()*+,-./0123456789:;<=>?@ABCDEFGHIJKLMNOPQRSTUVWXYZ[]^_"++Pz "abcdefghijklmnopqrstuvwxyz{|}~"=SG at*
  have hl:SG.cps.toList.length=SG.length:=by simp [Str.length]
  obtain⟨c,hc,hm⟩:=xT (xs:=SG.cps.toList) (i:=n % (SG.length:Int)) (SE _ (by lia)) (by rw [hl];exact SF _ (by lia))
  refine⟨⟨#[c]⟩,fun d hd=>?_,rfl,?_⟩
  · have:d=c:=by simpa using hd
    subst this
    exact jS.lit f1 d hm
  · have s1:∀e:En,g1 dW e [.d (.str SG)]=some (.d (.int SG.length)):=fun e=>by
      simp only [g1,dW,bJ,Qb];rw [if_pos (by lia)]
    have s2:∀e:En,bB e (.d (.int n)) (.d (.int (SG.length:Int)))=some (.d (.int (n % (SG.length:Int)))):=fun e=>a9 (by lia)
    have s3:∀e:En,za e (.d (.str SG)) (.d (.int (n % (SG.length:Int))))=some (.d (.str ⟨#[c]⟩)):=fun e=>by
      unfold za
      simp only [bJ,bW,Qb,hc]
      rw [if_pos (by lia)]
    generalize n % (SG.length:Int)=nm at*
    generalize (SG.length:Int)=L at*
    generalize (⟨#[c]⟩:Str)=C1 at*
    simp? [lM,zU,sc,s1,s2,s3]
theorem tI{e:En}{i:Nat}{xs ys:List PD}(h:e[i]?=some (some (.l xs)))(hl:xs.length+ys.length≤1000000):bi e (.s i) (.l ys)=some (.l (xs++ys)):=by
  have h1:rT e (.s i) (.l ys)=none:=rfl
  have h2:lr e (.s i) (.l ys)=none:=by
    unfold lr
    simp only [cU,h]
  have h3:pP e (.s i) (.l ys)=some (.l (xs++ys)):=by
    unfold pP
    simp only [xc,h,Qb]
    rw [if_pos hl]
  rw [show bi e (.s i) (.l ys)=(rT e (.s i) (.l ys)).or ((lr e (.s i) (.l ys)).or (pP e (.s i) (.l ys))) from rfl,h1,h2,h3]
  rfl
theorem Ec{f g:FS}{e e1:En}(h:f e=some (.nx e1)):aJ f g e=g e1:=by
  unfold aJ
  rw [h]
  rfl
theorem xG{W:aR}(ok:W.Ok){ds:List Int}(hd:kX ds):∃x,Od x∧iA [.l (ds.map .int),.d (ao W)]=some (.d (.str x),[.l (ds.tail.tail.map .int),.d (ao W)]):=by
  have wl:=ok.len
  have n1:=xF ds
  have hd1:kX ds.tail:=fun x hx=>hd x (Tr hx)
  obtain⟨y,hy,dd⟩:=B6 ok hd1
  obtain⟨ya,yl⟩:=Jb ok hy
  obtain⟨sg,sa,sl,hsg⟩:=HQ (n:=nx ds / 1009)
  obtain⟨m1,m2,m3,m4⟩:=ym
  have g1':∀e:En,dC e (.d (ao W)) (.d (.int 1))=some (.d (.tuple (W.ties.map ci))):=fun e=>by rw [bS,eJ,cY];rfl
  have gl:∀e:En,g1 dJ e [.d (.tuple (W.ties.map ci))]=some (.d (.int (W.ties.length:Int))):=fun e=>by rw [gG,Qh]
  have sS:∀e:En,g1 eY e [.d (.int (W.ties.length:Int))]=some (.d (.str (nS (W.ties.length:Int)))):=fun e=>eK (by lia) (by lia)
  have c1:∀e:En,ba e (.d (.str (Pz "ask "))) (.d (.str (nS (W.ties.length:Int))))=some (.d (.str (Pz "ask "++nS (W.ties.length:Int)))):=fun e=>dH (by
    have:=hX (n:=(W.ties.length:Int)) (by lia) (by lia)
    have:(Pz "ask ").length=4:=by decide
    lia)
  have mu1:∀e:En,i6 e (.d (.str (Pz "1"))) (.d (.int 1500))=some (.d (.str (QJ (Pz "1") 1500))):=fun e=>by
    unfold i6
    simp only [bJ,bW,Qb]
    rw [if_pos C9]
  have mu0:∀e:En,i6 e (.d (.str (Pz "0"))) (.d (.int 1500))=some (.d (.str (QJ (Pz "0") 1500))):=fun e=>by
    unfold i6
    simp only [bJ,bW,Qb]
    rw [if_pos C8]
  have c2:∀e:En,ba e (.d (.str (Pz "ask "))) (.d (.str (QJ (Pz "1") 1500)))=some (.d (.str (Pz "ask "++QJ (Pz "1") 1500))):=fun e=>dH (by
    have:(Pz "ask ").length=4:=by decide
    lia)
  have c3:∀e:En,ba e (.d (.str (Pz "ask "))) (.d (.str (QJ (Pz "0") 1500)))=some (.d (.str (Pz "ask "++QJ (Pz "0") 1500))):=fun e=>dH (by
    have:(Pz "ask ").length=4:=by decide
    lia)
  have gd:∀e:En,dq e (.d (.int (nx ds))) (.d (.int 64))=some (.d (.int (nx ds / 64))):=fun e=>eI (by decide) (K0 (by decide) (by decide))
  have gd2:∀e:En,dq e (.d (.int (nx ds))) (.d (.int 1009))=some (.d (.int (nx ds / 1009))):=fun e=>eI (by decide) (K0 (by decide) (by decide))
  have ylen:∀e:En,g1 dW e [.d (.str y)]=some (.d (.int y.length)):=fun e=>by
    simp only [g1,dW,bJ,Qb];rw [if_pos (by lia)]
  obtain⟨at_,hat⟩:∃a,a=nx ds / 64 % ((y.length:Int)+1):=⟨_,rfl⟩
  have gm:∀e:En,bB e (.d (.int (nx ds / 64))) (.d (.int ((y.length:Int)+1)))=some (.d (.int at_)):=fun e=>by rw [hat];exact a9 (by lia)
  obtain⟨p1,hp1⟩:∃p,p=QI y none (some at_):=⟨_,rfl⟩
  obtain⟨p2,hp2⟩:∃p,p=QI y (some at_) none:=⟨_,rfl⟩
  obtain⟨p3,hp3⟩:∃p,p=QI y (some (at_+1)) none:=⟨_,rfl⟩
  have b1:jS p1∧p1.length≤10:=by rw [hp1];exact⟨ya.slice _ _,Qq (Txt.slice_le _ _ _) yl⟩
  have b2:jS p2∧p2.length≤10:=by rw [hp2];exact⟨ya.slice _ _,Qq (Txt.slice_le _ _ _) yl⟩
  have b3:jS p3∧p3.length≤10:=by rw [hp3];exact⟨ya.slice _ _,Qq (Txt.slice_le _ _ _) yl⟩
  have k1:∀e:En,ba e (.d (.str p1)) (.d (.str sg))=some (.d (.str (p1++sg))):=fun e=>dH (by lia)
  have l1:(p1++sg).length≤11:=by rw [ph];lia
  have k2:∀e:En,ba e (.d (.str (p1++sg))) (.d (.str p2))=some (.d (.str (p1++sg++p2))):=fun e=>dH (by lia)
  have k3:∀e:En,ba e (.d (.str p1)) (.d (.str p3))=some (.d (.str (p1++p3))):=fun e=>dH (by lia)
  have k4:∀e:En,ba e (.d (.str (p1++sg))) (.d (.str p3))=some (.d (.str (p1++sg++p3))):=fun e=>dH (by lia)
  obtain⟨SM,hSM⟩:∃s:List Str,s=[p1++sg++p2,p1++p3,p1++sg++p3]:=⟨_,rfl⟩
  have smod:∀x∈SM,Od x:=fun x hx=>by
    rw [hSM] at hx
    simp only [Qz,QZ,or_false] at hx
    rcases hx with rfl | rfl | rfl
    · exact⟨(b1.1.app sa).app b2.1,by rw [ph];lia⟩
    · exact⟨b1.1.app b3.1,by rw [ph];lia⟩
    · exact⟨(b1.1.app sa).app b3.1,by rw [ph];lia⟩
  let E (v2 v3 v4 v5 v6 v7:Option Sv) (dx:List Int):En:=[some (.l (dx.map .int)),some (.d (ao W)),v2,v3,v4,v5,v6,v7]
  have n2:∀v3 v4 v5 v6 v7 dx,(E (some (.d (.int (nx ds)))) v3 v4 v5 v6 v7 dx)[2]?=some (some (.d (.int (nx ds)))):=fun _ _ _ _ _ _=>rfl
  have s1:(aS 2 (cB 1 bL (ac (ae 0) aj))) (E none none none none none none ds)=some (.nx (E (some (.d (.int (nx ds)))) none none none none none ds.tail)):=by
    show(aS 2 (cB 1 bL (ac (ae 0) aj))) [some (.l (ds.map .int)),some (.d (ao W)),none,none,none,none,none,none]=some (.nx [some (.l (ds.tail.map .int)),some (.d (ao W)),some (.d (.int (nx ds))),none,none,none,none,none])
    generalize nx ds=n0 at*
    generalize ao W=wb at*
    generalize ds.tail.map PyData.int=d1 at*
    generalize ds.map PyData.int=d0 at*
    simp? [n1]
  have s2:(aS 3 (cc (ac (vC (.str ("":Str))) (ac (vC (.str (" ":Str))) (ac (vC (.str ("ask":Str))) (ac (vC (.str ("ask ":Str))) (ac (vC (.str ("ask  0":Str))) (ac (vC (.str (" ask 0":Str))) (ac (vC (.str ("ask 0 ":Str))) (ac (vC (.str ("ask -1":Str))) (ac (vC (.str ("ask 00":Str))) (ac (vC (.str ("ask 01":Str))) (ac (vC (.str ("ask +1":Str))) (ac (vC (.str ("ask 0 1":Str))) aj)))))))))))))) (E (some (.d (.int (nx ds)))) none none none none none ds.tail)=some (.nx (E (some (.d (.int (nx ds)))) (some (.l (A1.map .str))) none none none none ds.tail)):=rfl
  have s3:(aS 3 (aw bi (ae 3) (cc (ac (vC (.str ("Ask 0":Str))) (ac (vC (.str ("ASK 0":Str))) (ac (vC (.str ("yes ":Str))) (ac (vC (.str (" yes":Str))) (ac (vC (.str ("Yes":Str))) (ac (vC (.str ("yes no":Str))) (ac (vC (.str ("no 0":Str))) (ac (vC (.str ("may 0":Str))) (ac (vC (.str ("best 1":Str))) (ac (vC (.str ("bound bound":Str))) (ac (vC (.str ("kep":Str))) aj)))))))))))))) (E (some (.d (.int (nx ds)))) (some (.l (A1.map .str))) none none none none ds.tail)=some (.nx (E (some (.d (.int (nx ds)))) (some (.l (A1.map .str++A2.map .str))) none none none none ds.tail)):=by
    have h:=tI (e:=E (some (.d (.int (nx ds)))) (some (.l (A1.map .str))) none none none none ds.tail) (i:=3) (xs:=A1.map .str) (ys:=A2.map .str) rfl (by decide)
    show(((bi (E (some (.d (.int (nx ds)))) (some (.l (A1.map .str))) none none none none ds.tail) (.s 3) (.l (A2.map .str))).map fun z=>(z,E (some (.d (.int (nx ds)))) (some (.l (A1.map .str))) none none none none ds.tail)).bind _)=_
    rw [h]
    rfl
  have s4:(aS 3 (aw bi (ae 3) (cc (ac (vC (.str ("kept kept":Str))) (ac (vC (.str ("backs":Str))) (ac (vC (.str ("back 1":Str))) (ac (vC (.str ("none":Str))) (ac (vC (.str ("stop":Str))) (ac (vC (.str ("NoWord":Str))) (ac (vC (.str ("asked":Str))) (ac (vC (.str ("ask x":Str))) (ac (vC (.str ("ask 1.0":Str))) (ac (vC (.str ("ask 1e1":Str))) aj))))))))))))) (E (some (.d (.int (nx ds)))) (some (.l (A1.map .str++A2.map .str))) none none none none ds.tail)=some (.nx (E (some (.d (.int (nx ds)))) (some (.l (A1.map .str++A2.map .str++A3.map .str))) none none none none ds.tail)):=by
    have h:=tI (e:=E (some (.d (.int (nx ds)))) (some (.l (A1.map .str++A2.map .str))) none none none none ds.tail) (i:=3) (xs:=A1.map .str++A2.map .str) (ys:=A3.map .str) rfl (by decide)
    show(((bi (E (some (.d (.int (nx ds)))) (some (.l (A1.map .str++A2.map .str))) none none none none ds.tail) (.s 3) (.l (A3.map .str))).map fun z=>(z,E (some (.d (.int (nx ds)))) (some (.l (A1.map .str++A2.map .str))) none none none none ds.tail)).bind _)=_
    rw [h]
    rfl
  have e123:A1.map PyData.str++A2.map .str++A3.map .str=(A1++A2++A3).map .str:=by simp
  rw [e123] at s4
  have l123:((A1++A2++A3).map PyData.str).length=33:=by decide
  have s5:(aS 3 (aw bi (ae 3) (cc (ac (aw ba (vC (.str ("ask ":Str))) (aA (g1 eY) (ac (aA (g1 dJ) (ac (aw dC (ae 1) (vC (.int 1))) aj)) aj))) (ac (vC (.str ("ask 16":Str))) (ac (vC (.str ("ask 99":Str))) (ac (vC (.str ("ask 100":Str))) (ac (aw ba (vC (.str ("ask ":Str))) (aw i6 (vC (.str ("1":Str))) (vC (.int 1500)))) (ac (aw ba (vC (.str ("ask ":Str))) (aw i6 (vC (.str ("0":Str))) (vC (.int 1500)))) aj))))))))) (E (some (.d (.int (nx ds)))) (some (.l ((A1++A2++A3).map .str))) none none none none ds.tail)=some (.nx (E (some (.d (.int (nx ds)))) (some (.l ((A1++A2++A3).map .str++(A4 (W.ties.length:Int)).map .str))) none none none none ds.tail)):=by
    have h:∀e:En,e[3]?=some (some (.l ((A1++A2++A3).map .str)))→bi e (.s 3) (.l ((A4 (W.ties.length:Int)).map .str))=some (.l ((A1++A2++A3).map .str++(A4 (W.ties.length:Int)).map .str)):=fun e he=>tI he (by rw [l123];exact(show 33+6≤1000000 by decide))
    unfold A4 at h ⊢
    simp only [Qk,Qv] at h ⊢
    show(aS 3 (aw bi (ae 3) (cc (ac (aw ba (vC (.str ("ask ":Str))) (aA (g1 eY) (ac (aA (g1 dJ) (ac (aw dC (ae 1) (vC (.int 1))) aj)) aj))) (ac (vC (.str ("ask 16":Str))) (ac (vC (.str ("ask 99":Str))) (ac (vC (.str ("ask 100":Str))) (ac (aw ba (vC (.str ("ask ":Str))) (aw i6 (vC (.str ("1":Str))) (vC (.int 1500)))) (ac (aw ba (vC (.str ("ask ":Str))) (aw i6 (vC (.str ("0":Str))) (vC (.int 1500)))) aj))))))))) [some (.l (ds.tail.map .int)),some (.d (ao W)),some (.d (.int (nx ds))),some (.l ((A1++A2++A3).map .str)),none,none,none,none]=some (.nx [some (.l (ds.tail.map .int)),some (.d (ao W)),some (.d (.int (nx ds))),_,none,none,none,none])
    generalize (A1++A2++A3).map PyData.str=AA at*
    generalize Pz "ask "++nS (W.ties.length:Int)=t1 at*
    generalize Pz "ask "++QJ (Pz "1") 1500=t2 at*
    generalize Pz "ask "++QJ (Pz "0") 1500=t3 at*
    generalize QJ (Pz "1") 1500=u2 at*
    generalize QJ (Pz "0") 1500=u3 at*
    generalize nS (W.ties.length:Int)=u1 at*
    generalize (W.ties.length:Int)=L at*
    generalize W.ties.map ci=TT at*
    generalize nx ds=n0 at*
    generalize ao W=wb at*
    generalize ds.tail.map PyData.int=d1 at*
    have h':=h [some (.l d1),some (.d wb),some (.d (.int n0)),some (.l AA),none,none,none,none] rfl
    simp? [g1',gl,sS,c1,c2,c3,mu1,mu0,h']
  obtain⟨AL,hAL⟩:∃a:List Str,a=A1++A2++A3++A4 (W.ties.length:Int):=⟨_,rfl⟩
  have eAL:(A1++A2++A3).map PyData.str++(A4 (W.ties.length:Int)).map .str=AL.map .str:=by rw [hAL];simp only [List.map_append]
  rw [eAL] at s5
  have lAL:AL.length=39:=by
    have:=congrArg List.length eAL
    rw [Se,l123,Qh,Qh] at this
    rw [←this]
    rfl
  have alod:∀x∈AL,Od x:=fun x hx=>by
    rw [hAL] at hx
    rcases Pv hx with h | h
    · exact Cs x h
    · exact Im (by lia) (by lia) x h
  have s6:(aS 4 (cB 2 fH (ac (ae 0) (ac (ae 1) aj)))) (E (some (.d (.int (nx ds)))) (some (.l (AL.map .str))) none none none none ds.tail)=some (.nx (E (some (.d (.int (nx ds)))) (some (.l (AL.map .str))) (some (.d (.str y))) none none none ds.tail.tail)):=by
    show(aS 4 (cB 2 fH (ac (ae 0) (ac (ae 1) aj)))) [some (.l (ds.tail.map .int)),some (.d (ao W)),some (.d (.int (nx ds))),some (.l (AL.map .str)),none,none,none,none]=some (.nx [some (.l (ds.tail.tail.map .int)),some (.d (ao W)),some (.d (.int (nx ds))),some (.l (AL.map .str)),some (.d (.str y)),none,none,none])
    generalize AL.map PyData.str=AA at*
    generalize nx ds=n0 at*
    generalize ao W=wb at*
    generalize ds.tail.tail.map PyData.int=d2 at*
    generalize ds.tail.map PyData.int=d1 at*
    simp? [dd]
  have s7:(aS 5 (aw bB (aw dq (ae 2) (vC (.int 64))) (aw bi (aA (g1 dW) (ac (ae 4) aj)) (vC (.int 1))))) (E (some (.d (.int (nx ds)))) (some (.l (AL.map .str))) (some (.d (.str y))) none none none ds.tail.tail)=some (.nx (E (some (.d (.int (nx ds)))) (some (.l (AL.map .str))) (some (.d (.str y))) (some (.d (.int at_))) none none ds.tail.tail)):=by
    show(aS 5 (aw bB (aw dq (ae 2) (vC (.int 64))) (aw bi (aA (g1 dW) (ac (ae 4) aj)) (vC (.int 1))))) [some (.l (ds.tail.tail.map .int)),some (.d (ao W)),some (.d (.int (nx ds))),some (.l (AL.map .str)),some (.d (.str y)),none,none,none]=some (.nx [some (.l (ds.tail.tail.map .int)),some (.d (ao W)),some (.d (.int (nx ds))),some (.l (AL.map .str)),some (.d (.str y)),some (.d (.int at_)),none,none])
    generalize AL.map PyData.str=AA at*
    generalize nx ds / 64=n64 at*
    generalize nx ds=n0 at*
    generalize ao W=wb at*
    generalize ds.tail.tail.map PyData.int=d2 at*
    clear hp1 hp2 hp3 b1 b2 b3 yl
    generalize (y.length:Int)=Y at*
    simp? [gd,ylen,gm]
  have s8:(aS 6 (cB 1 lM (ac (aw dq (ae 2) (vC (.int 1009))) aj))) (E (some (.d (.int (nx ds)))) (some (.l (AL.map .str))) (some (.d (.str y))) (some (.d (.int at_))) none none ds.tail.tail)=some (.nx (E (some (.d (.int (nx ds)))) (some (.l (AL.map .str))) (some (.d (.str y))) (some (.d (.int at_))) (some (.d (.str sg))) none ds.tail.tail)):=by
    show(aS 6 (cB 1 lM (ac (aw dq (ae 2) (vC (.int 1009))) aj))) [some (.l (ds.tail.tail.map .int)),some (.d (ao W)),some (.d (.int (nx ds))),some (.l (AL.map .str)),some (.d (.str y)),some (.d (.int at_)),none,none]=some (.nx [some (.l (ds.tail.tail.map .int)),some (.d (ao W)),some (.d (.int (nx ds))),some (.l (AL.map .str)),some (.d (.str y)),some (.d (.int at_)),some (.d (.str sg)),none])
    generalize AL.map PyData.str=AA at*
    generalize nx ds / 1009=n9 at*
    generalize nx ds=n0 at*
    generalize ao W=wb at*
    generalize ds.tail.tail.map PyData.int=d2 at*
    simp? [gd2,hsg]
  have s9:(aS 7 (cc (ac (aw ba (aw ba (gN (ae 4) bC (bx (ae 5))) (ae 6)) (gN (ae 4) (bx (ae 5)) bC)) (ac (aw ba (gN (ae 4) bC (bx (ae 5))) (gN (ae 4) (bx (aw bi (ae 5) (vC (.int 1)))) bC)) (ac (aw ba (aw ba (gN (ae 4) bC (bx (ae 5))) (ae 6)) (gN (ae 4) (bx (aw bi (ae 5) (vC (.int 1)))) bC)) aj))))) (E (some (.d (.int (nx ds)))) (some (.l (AL.map .str))) (some (.d (.str y))) (some (.d (.int at_))) (some (.d (.str sg))) none ds.tail.tail)=some (.nx (E (some (.d (.int (nx ds)))) (some (.l (AL.map .str))) (some (.d (.str y))) (some (.d (.int at_))) (some (.d (.str sg))) (some (.l (SM.map .str))) ds.tail.tail)):=by
    show(aS 7 (cc (ac (aw ba (aw ba (gN (ae 4) bC (bx (ae 5))) (ae 6)) (gN (ae 4) (bx (ae 5)) bC)) (ac (aw ba (gN (ae 4) bC (bx (ae 5))) (gN (ae 4) (bx (aw bi (ae 5) (vC (.int 1)))) bC)) (ac (aw ba (aw ba (gN (ae 4) bC (bx (ae 5))) (ae 6)) (gN (ae 4) (bx (aw bi (ae 5) (vC (.int 1)))) bC)) aj))))) [some (.l (ds.tail.tail.map .int)),some (.d (ao W)),some (.d (.int (nx ds))),some (.l (AL.map .str)),some (.d (.str y)),some (.d (.int at_)),some (.d (.str sg)),none]=some (.nx [some (.l (ds.tail.tail.map .int)),some (.d (ao W)),some (.d (.int (nx ds))),some (.l (AL.map .str)),some (.d (.str y)),some (.d (.int at_)),some (.d (.str sg)),some (.l (SM.map .str))])
    rw [hSM]
    simp only [Qk,Qv]
    have yl':y.length≤1000000:=by lia
    generalize AL.map PyData.str=AA at*
    generalize p1++sg++p2=r1 at*
    generalize p1++sg++p3=r2 at*
    generalize p1++sg=r3 at*
    generalize p1++p3=r4 at*
    generalize nx ds=n0 at*
    generalize ao W=wb at*
    generalize ds.tail.tail.map PyData.int=d2 at*
    simp? [gN,bC,bx,bJ,yl',←hp1,←hp2,←hp3,k1,k2,k3,k4]
  have rl:(PX 8 (SM.map PyData.str)).flatten.length=24:=by rw [hSM];rfl
  obtain⟨d,hdat,hdm⟩:=xT (xs:=AL.map PyData.str++(PX 8 (SM.map PyData.str)).flatten) (i:=nx ds % 63) (SE _ (by decide)) (by
    rw [Se,Qh,lAL,rl]
    exact SF _ (by decide))
  obtain⟨x,rfl,hxo⟩:∃x,d=.str x∧Od x:=by
    rcases Pv hdm with h | h
    · obtain⟨x,hx,rfl⟩:=Pw h
      exact⟨x,rfl,alod x hx⟩
    · obtain⟨q,hq,hx⟩:=List.mem_flatten.mp h
      rw [(List.mem_replicate.mp hq).2] at hx
      obtain⟨z,hz,rfl⟩:=Pw hx
      exact⟨z,rfl,smod z hz⟩
  have s10:(bf (aw dC (aw bi (ae 3) (aw lm (ae 7) (vC (.int 8)))) (aw bB (ae 2) (aw bi (aA (g1 dJ) (ac (ae 3) aj)) (vC (.int 24)))))) (E (some (.d (.int (nx ds)))) (some (.l (AL.map .str))) (some (.d (.str y))) (some (.d (.int at_))) (some (.d (.str sg))) (some (.l (SM.map .str))) ds.tail.tail)=some (.rt (.d (.str x)) (E (some (.d (.int (nx ds)))) (some (.l (AL.map .str))) (some (.d (.str y))) (some (.d (.int at_))) (some (.d (.str sg))) (some (.l (SM.map .str))) ds.tail.tail)):=by
    show(bf (aw dC (aw bi (ae 3) (aw lm (ae 7) (vC (.int 8)))) (aw bB (ae 2) (aw bi (aA (g1 dJ) (ac (ae 3) aj)) (vC (.int 24)))))) [some (.l (ds.tail.tail.map .int)),some (.d (ao W)),some (.d (.int (nx ds))),some (.l (AL.map .str)),some (.d (.str y)),some (.d (.int at_)),some (.d (.str sg)),some (.l (SM.map .str))]=some (.rt (.d (.str x)) [some (.l (ds.tail.tail.map .int)),some (.d (ao W)),some (.d (.int (nx ds))),some (.l (AL.map .str)),some (.d (.str y)),some (.d (.int at_)),some (.d (.str sg)),some (.l (SM.map .str))])
    have lA:((AL.map PyData.str).length:Int)=39:=by rw [Qh,lAL];rfl
    have hrep:∀e:En,e[7]?=some (some (.l (SM.map .str)))→lm e (.s 7) (.d (.int 8))=some (.l (PX 8 (SM.map PyData.str)).flatten):=fun e he=>by
      have h1:u9 e (.s 7) (.d (.int 8))=none:=rfl
      have h2:rX e (.s 7) (.d (.int 8))=none:=by
        unfold rX
        simp only [cU,he]
      have h3:rW e (.s 7) (.d (.int 8))=some (.l (PX 8 (SM.map PyData.str)).flatten):=by
        have lS:(SM.map PyData.str).length=3:=by rw [hSM];rfl
        unfold rW
        simp only [xc,he,bW,Qb]
        rw [if_pos ⟨by decide,by decide,by rw [lS];decide⟩]
        rfl
      rw [show lm e (.s 7) (.d (.int 8))=(u9 e (.s 7) (.d (.int 8))).or ((rX e (.s 7) (.d (.int 8))).or (rW e (.s 7) (.d (.int 8)))) from rfl,h1,h2,h3]
      rfl
    have g63:∀e:En,bB e (.d (.int (nx ds))) (.d (.int 63))=some (.d (.int (nx ds % 63))):=fun e=>a9 (by decide)
    have hcat:∀e:En,e[3]?=some (some (.l (AL.map .str)))→bi e (.s 3) (.l (PX 8 (SM.map PyData.str)).flatten)=some (.l (AL.map .str++(PX 8 (SM.map PyData.str)).flatten)):=fun e he=>tI he (by rw [rl,Qh,lAL];decide)
    have hlen:∀e:En,e[3]?=some (some (.l (AL.map .str)))→g1 dJ e [.s 3]=some (.d (.int 39)):=fun e he=>by rw [iU he,lA]
    generalize hR:(PX 8 (SM.map PyData.str)).flatten=RR at*
    generalize AL.map PyData.str=AA at*
    generalize SM.map PyData.str=SS at*
    generalize nx ds % 63=n63 at*
    generalize nx ds=n0 at*
    generalize ao W=wb at*
    generalize ds.tail.tail.map PyData.int=d2 at*
    have h1:=hrep [some (.l d2),some (.d wb),some (.d (.int n0)),some (.l AA),some (.d (.str y)),some (.d (.int at_)),some (.d (.str sg)),some (.l SS)] rfl
    have h2:=hcat [some (.l d2),some (.d wb),some (.d (.int n0)),some (.l AA),some (.d (.str y)),some (.d (.int at_)),some (.d (.str sg)),some (.l SS)] rfl
    have h3:=hlen [some (.l d2),some (.d wb),some (.d (.int n0)),some (.l AA),some (.d (.str y)),some (.d (.int at_)),some (.d (.str sg)),some (.l SS)] rfl
    simp? [h1,h2,h3,g63,hdat]
  refine⟨x,hxo,?_⟩
  have hb:ir (E none none none none none none ds)=some (.rt (.d (.str x)) (E (some (.d (.int (nx ds)))) (some (.l (AL.map .str))) (some (.d (.str y))) (some (.d (.int at_))) (some (.d (.str sg))) (some (.l (SM.map .str))) ds.tail.tail)):=by
    unfold ir
    rw [Ec s1,Ec s2,Ec s3,Ec s4,Ec s5,Ec s6,Ec s7,Ec s8,Ec s9]
    exact s10
  show(gQ 2 6 _ ir) [.l (ds.map .int),.d (ao W)]=_
  unfold gQ
  have hb':ir [some (.l (ds.map .int)),some (.d (ao W)),none,none,none,none,none,none]=some (.rt (.d (.str x)) [some (.l (ds.tail.tail.map .int)),some (.d (ao W)),some (.d (.int (nx ds))),some (.l (AL.map .str)),some (.d (.str y)),some (.d (.int at_)),some (.d (.str sg)),some (.l (SM.map .str))]):=hb
  generalize AL.map PyData.str=AA at*
  generalize SM.map PyData.str=SS at*
  generalize nx ds=n0 at*
  generalize ao W=wb at*
  generalize ds.tail.tail.map PyData.int=d2 at*
  generalize ds.map PyData.int=d0 at*
  simp? [hb']
theorem pO{W1:List Nat}{g:FG}{f:XS}(P:Nat→EX→Prop):∀(items:List PD) (k:Nat) (x:EX),(∀i d x,items[i]?=some d→P (k+i) x→∃e1 x2,j3 W1 x.2=true∧g d x.1=some e1∧okO x.2 e1=true∧f (e1,x.2)=some (.nx x2)∧P (k+i+1) x2)→P k x→∃x',uX W1 g f items x=some (.nx x')∧P (k+items.length) x'
  | [],k,x,_,h=>⟨x,rfl,h⟩
  | d::r,k,x,hs,h=>by
    obtain⟨e1,x2,h1,h2,h3,h4,h5⟩:=hs 0 d x rfl h
    obtain⟨x',h6,h7⟩:=pO P r (k+1) x2 (fun i y x hy hp=>by
      have:=hs (i+1) y x (by simpa using hy) (by rw [show k+(i+1)=k+1+i by lia];exact hp)
      rw [show k+(i+1)+1=k+1+i+1 by lia] at this
      exact this) h5
    refine⟨x',?_,by rw [Ro,show k+(r.length+1)=k+1+r.length by lia];exact h7⟩
    unfold uX
    simp only [h1,h2,h3,h4,Qb,if_true]
    exact h6
def e9(ns ds:List Int)(W:aR)(r:List (Int × Bool))(o:Option Int)(v5 v6 v7 v8:Option PD):En:=[some (.d (.list (ns.map .int))),some (.l (ds.map .int)),some (.d (ao W)),none,some (.l (sL r o)),v5.map .d,v6.map .d,v7.map .d,v8.map .d]
theorem Ed{f g:XS}{x x1:EX}(h:f x=some (.nx x1)):bh f g x=g x1:=by
  unfold bh
  rw [h]
  rfl
theorem Mq{ns ds:List Int}{W:aR}{r:List (Int × Bool)}{o:Option Int}{v5 v6 v7 v8:Option PD}{a:Ob}:okO [(Lc.s 3,a)] (e9 ns ds W r o v5 v6 v7 v8)=true:=rfl
theorem Kp{t:Str}(ht:Qe t=true)(e:En):bH true e (.d (.str t)) (.d (.str t))=some (.d (.bool false)):=by
  rw [ej ht ht];simp
theorem Lj{W:aR}{x t:Str}{r r':List (Int × Bool)}{o o':Option Int}(ht:Qe t=true)(h:D9 W x r o r' o' t){ns d0:List Int}{v5 v6 v8:Option PD}:
    cL (bG (dQ (bH true) (bP 2 aG (gM 3 "say" (eN (aC (ae 7)) dU))) (aC (cB 3 jT (ac (ae 2) (ac (ae 4) (ac (ae 7) aj))))))) (bI (aC (vC (.bool false)))) bY (e9 ns d0 W r o v5 v6 (some (.str x)) v8,[(.s 3,dc W r o)])=some (.nx (e9 ns d0 W r' o' v5 v6 (some (.str x)) v8,[(.s 3,dc W r' o')])):=by
  obtain⟨p1,p2⟩:=h
  have q:=Kp ht
  have hdk:∃gs,dc W r o=.dk gs∧gs.lookup ("say":Str)=none:=⟨_,rfl,rfl⟩
  obtain⟨gs,hd,hn⟩:=hdk
  unfold e9
  rw [hd] at p2 ⊢
  generalize dc W r' o'=D1 at*
  generalize sL r o=S0 at*
  generalize sL r' o'=S1 at*
  generalize ao W=wb at*
  generalize ns.map PyData.int=N at*
  generalize d0.map PyData.int=d0' at*
  generalize v5.map Sv.d=u5 at*
  generalize v6.map Sv.d=u6 at*
  generalize v8.map Sv.d=u8 at*
  simp? [cL,bY,bG,dQ,bP,gM,eN,dU,lN,o6,iK,L2.locs,aC,j3,okO,Lc.slot,bK,cG,hn,L2.boolD,p1,p2,q]
theorem Ll{W:aR}{x t:Str}{r r':List (Int × Bool)}{o o':Option Int}(ht:Qe t=true)(h:D9 W x r o r' o' t){ns d0:List Int}{v5 v6 v7:Option PD}:
    Iz (e9 ns d0 W r o v5 v6 v7 (some (.str x)),[(.s 3,dc W r o)])=some (.nx (e9 ns d0 W r' o' v5 v6 v7 (some (.str x)),[(.s 3,dc W r' o')])):=by
  obtain⟨p1,p2⟩:=h
  have q:=Kp ht
  have hdk:∃gs,dc W r o=.dk gs∧gs.lookup ("say":Str)=none:=⟨_,rfl,rfl⟩
  obtain⟨gs,hd,hn⟩:=hdk
  unfold e9 Iz
  rw [hd] at p2 ⊢
  generalize dc W r' o'=D1 at*
  generalize sL r o=S0 at*
  generalize sL r' o'=S1 at*
  generalize ao W=wb at*
  generalize ns.map PyData.int=N at*
  generalize d0.map PyData.int=d0' at*
  generalize v5.map Sv.d=u5 at*
  generalize v6.map Sv.d=u6 at*
  generalize v7.map Sv.d=u7 at*
  simp? [cL,bY,bG,dQ,bP,gM,eN,dU,lN,o6,iK,L2.locs,aC,j3,okO,Lc.slot,bK,cG,hn,L2.boolD,p1,p2,q]
theorem AU{W:aR}(ok:W.Ok){x:Str}(hx:Od x){r:List (Int × Bool)}{o:Option Int}(hI:Iv W r o){ns d0:List Int}{v5 v7 v8:Option PD}:
    ∃r' o',Iv W r' o'∧cL (de (kP (aE (cB 2 fJ (ac (ae 2) (ac (ae 6) aj))))))
    (cL (bG (dQ (bH true) (bP 2 aG (gM 3 "say" (eN (aC (ae 6)) dU))) (aC (vC (.str ("NoWord":Str))))))
    (bI (aC (vC (.bool false))))
    bY)
    (cL (qP (de (aE (aw (nD true) (ae 6) (cc (ac (vC (.str ("best":Str))) (ac (vC (.str ("bound":Str))) aj)))))) (bG (dQ (bH true) (bP 2 aG (gM 3 "say" (eN (aC (ae 6)) dU))) (aC (cB 3 jT (ac (ae 2) (ac (ae 4) (ac (ae 6) aj))))))))
    (bI (aC (vC (.bool false))))
    bY) (e9 ns d0 W r o v5 (some (.str x)) v7 v8,[(.s 3,dc W r o)])=some (.nx (e9 ns d0 W r' o' v5 (some (.str x)) v7 v8,[(.s 3,dc W r' o')])):=by
  have hok:=hx.1.ok
  have il:=zH ok hok
  have hin:∀e:En,nD true e (.d (.str x)) (.l [.str (Pz "best"),.str (Pz "bound")])=some (.d (.bool (!(decide (Pz "best"=x) || decide (Pz "bound"=x))))):=fun e=>by
    have v:∀y:Str,QY (.str y) (.str x)=decide (y=x):=fun y=>by
      show(y==x)=decide (y=x)
      by_cases c:y=x<;>simp [c]
    unfold nD
    simp only [ix,cU,Qb]
    rw [if_pos (by simp [Qr,QW,QE,hok,au])]
    simp only [if_true,Tj,List.any_nil,v,TH]
  cases hb:((wu.any fun y=>decide (y=x)) || ((QM W.ties.length).any fun k:Nat=>decide (Lk (k:Int)=x))) with
  | false=>
    rw [hb] at il
    rw [UC] at hb
    have hw:∀s∈["yes","no","may","kept","back","best","bound"],x≠Pz s:=fun s hs z=>by
      have h0:=hb.1
      rw [Tx] at h0
      have:=h0 x (by
        rw [z]
        simp only [Qz,QZ,or_false] at hs
        unfold wu
        rcases hs with rfl | rfl | rfl | rfl | rfl | rfl | rfl<;>simp)
      simp at this
    have hn:∀k,h8 W k→x≠Lk k:=fun k hk z=>by
      have h0:=hb.2
      rw [Tx] at h0
      have:=h0 k.toNat (by rw [Sl];have:=hk.1;have:=hk.2;lia)
      rw [Int.toNat_of_nonneg hk.1] at this
      simp [z] at this
    have sn:=BM ok (r:=r) (o:=o) hx.1 (by have:=hx.2;lia) hn hw
    have q:=Kp (t:=Pz "NoWord") (au _)
    have hdk:∃gs,dc W r o=.dk gs∧gs.lookup ("say":Str)=none:=⟨_,rfl,rfl⟩
    obtain⟨gs,hd,hnn⟩:=hdk
    refine⟨r,o,hI,?_⟩
    unfold e9
    rw [hd] at sn ⊢
    clear hb hw hn hin
    generalize sL r o=S0 at*
    generalize ao W=wb at*
    generalize ns.map PyData.int=N at*
    generalize d0.map PyData.int=d0' at*
    generalize v5.map Sv.d=u5 at*
    generalize v7.map Sv.d=u7 at*
    generalize v8.map Sv.d=u8 at*
    simp? [cL,bY,bG,dQ,bP,gM,eN,dU,lN,o6,iK,L2.locs,aC,de,j3,okO,Lc.slot,bK,cG,hnn,L2.boolD,il,sn,q]
  | true=>
    rw [hb] at il
    by_cases hbb:Pz "best"=x∨Pz "bound"=x
    · have e1:(!(decide (Pz "best"=x) || decide (Pz "bound"=x)))=false:=by
        rcases hbb with h | h<;>simp [h]
      rw [e1] at hin
      refine⟨r,o,hI,?_⟩
      unfold e9
      clear hb hbb e1
      generalize dc W r o=D0 at*
      generalize sL r o=S0 at*
      generalize ao W=wb at*
      generalize ns.map PyData.int=N at*
      generalize d0.map PyData.int=d0' at*
      generalize v5.map Sv.d=u5 at*
      generalize v7.map Sv.d=u7 at*
      generalize v8.map Sv.d=u8 at*
      simp? [cL,bY,qP,aC,de,j3,okO,Lc.slot,L2.boolD,il,hin]
    · have e1:(!(decide (Pz "best"=x) || decide (Pz "bound"=x)))=true:=by
        have h1:¬Pz "best"=x:=fun z=>hbb (.inl z)
        have h2:¬Pz "bound"=x:=fun z=>hbb (.inr z)
        simp [h1,h2]
      rw [e1] at hin
      have hL:L9 W x:=by
        rw [Bool.or_eq_true] at hb
        rcases hb with h | h
        · obtain⟨y,hy,hyx⟩:=List.any_eq_true.mp h
          rw [decide_eq_true_eq] at hyx
          subst hyx
          unfold wu at hy
          simp only [Qz,QZ,or_false] at hy
          rcases hy with rfl | rfl | rfl | rfl | rfl | rfl | rfl
          · exact .yn true
          · exact .yn false
          · exact .may
          · exact absurd (.inl rfl) hbb
          · exact absurd (.inr rfl) hbb
          · exact .kept
          · exact .back
        · obtain⟨k,hk,hkx⟩:=List.any_eq_true.mp h
          rw [decide_eq_true_eq] at hkx
          rw [Sl] at hk
          rw [←hkx]
          exact .ask ⟨by lia,by lia⟩
      obtain⟨r',o',t,hI',ht,p1,p2⟩:=d9 ok hI hL
      have q:=Kp ht
      have hdk:∃gs,dc W r o=.dk gs∧gs.lookup ("say":Str)=none:=⟨_,rfl,rfl⟩
      obtain⟨gs,hd,hnn⟩:=hdk
      refine⟨r',o',hI',?_⟩
      unfold e9
      rw [hd] at p2 ⊢
      clear hb hbb e1 hL
      generalize dc W r' o'=D1 at*
      generalize sL r o=S0 at*
      generalize sL r' o'=S1 at*
      generalize ao W=wb at*
      generalize ns.map PyData.int=N at*
      generalize d0.map PyData.int=d0' at*
      generalize v5.map Sv.d=u5 at*
      generalize v7.map Sv.d=u7 at*
      generalize v8.map Sv.d=u8 at*
      simp? [cL,bY,qP,bG,dQ,bP,gM,eN,dU,lN,o6,iK,L2.locs,aC,de,j3,okO,Lc.slot,bK,cG,hnn,L2.boolD,il,hin,p1,p2,q]
theorem CN{W:aR}(ok:W.Ok){ns ds:List Int}(hd:kX ds){v5 v6 v7 v8:Option PD}{r:List (Int × Bool)}{o:Option Int}(hI:Iv W r o):∃ds' v6' v7' r' o',Iy (e9 ns ds W r o v5 v6 v7 v8,[(.s 3,dc W r o)])=some (.nx (e9 ns ds' W r' o' v5 v6' v7' v8,[(.s 3,dc W r' o')]))∧kX ds'∧Iv W r' o':=by
  obtain⟨x,hx,to⟩:=xG ok hd
  have hd2:kX ds.tail.tail:=fun x hx=>hd x (Tr (Tr hx))
  have hd3:kX ds.tail.tail.tail:=fun x hx=>hd2 x (Tr hx)
  obtain⟨y,hy,td⟩:=B6 ok hd2
  have s1:dy [6] (aS 6 (cB 2 iA (ac (ae 1) (ac (ae 2) aj)))) (e9 ns ds W r o v5 v6 v7 v8,[(.s 3,dc W r o)])=some (.nx (e9 ns ds.tail.tail W r o v5 (some (.str x)) v7 v8,[(.s 3,dc W r o)])):=by
    unfold e9
    generalize dc W r o=D0 at*
    generalize sL r o=S0 at*
    generalize ao W=wb at*
    generalize ns.map PyData.int=N at*
    generalize ds.tail.tail.map PyData.int=d2 at*
    generalize ds.map PyData.int=d0 at*
    generalize v5.map Sv.d=u5 at*
    generalize v6.map Sv.d=u6 at*
    generalize v7.map Sv.d=u7 at*
    generalize v8.map Sv.d=u8 at*
    simp? [dy,j3,okO,Lc.slot,to]
  obtain⟨r1,o1,hI1,s2⟩:=AU ok hx hI (ns:=ns) (d0:=ds.tail.tail) (v5:=v5) (v7:=v7) (v8:=v8)
  have s3:dy [7] (aS 7 (cB 2 fH (ac (ae 1) (ac (ae 2) aj)))) (e9 ns ds.tail.tail W r1 o1 v5 (some (.str x)) v7 v8,[(.s 3,dc W r1 o1)])=some (.nx (e9 ns ds.tail.tail.tail W r1 o1 v5 (some (.str x)) (some (.str y)) v8,[(.s 3,dc W r1 o1)])):=by
    unfold e9
    generalize dc W r1 o1=D0 at*
    generalize sL r1 o1=S0 at*
    generalize ao W=wb at*
    generalize ns.map PyData.int=N at*
    generalize ds.tail.tail.tail.map PyData.int=d3 at*
    generalize ds.tail.tail.map PyData.int=d2 at*
    generalize v5.map Sv.d=u5 at*
    generalize v7.map Sv.d=u7 at*
    generalize v8.map Sv.d=u8 at*
    simp? [dy,j3,okO,Lc.slot,td]
  obtain⟨r2,o2,t,hI2,ht,hD⟩:=d9 ok hI1 hy
  refine⟨ds.tail.tail.tail,some (.str x),some (.str y),r2,o2,?_,hd3,hI2⟩
  unfold Iy
  rw [Ed s1,Ed s2,Ed s3]
  exact Lj ht hD
theorem AB(ns:List Int)(hl:ns.length≤63):∃as',vm [.d (.list (ns.map .int))]=some (.d (.bool true),as'):=by
  obtain⟨ds,td,hd⟩:=Ej ns hl
  obtain⟨W,d1,t1,hd1,ok, -, -⟩:=J_ ds 8 16 hd (by decide) (by decide) (by decide) (by decide)
  have LR:Iv W [] none:=⟨trivial,fun k z=>by cases z⟩
  obtain⟨x',h1,d,w5,w6,w7,r,o,rfl, -,hI⟩:=pO (W1:=[5]) (g:=aq 5) (f:=Iy) (fun _ x=>∃d w5 w6 w7 r o,x=(e9 ns d W r o w5 w6 w7 none,[(.s 3,dc W r o)])∧kX d∧Iv W r o) (bg 0 20) 0 (e9 ns d1 W [] none none none none none,[(.s 3,dc W [] none)]) (fun i d x hx hI=>by
    obtain⟨ds1,w5,w6,w7,r,o,rfl,hdd,hi⟩:=hI
    obtain⟨ds2,w6',w7',r',o',h2,hd2,hi2⟩:=CN ok (ns:=ns) hdd (v5:=some d) (v6:=w6) (v7:=w7) (v8:=none) hi
    exact⟨e9 ns ds1 W r o (some d) w6 w7 none,_,rfl,rfl,rfl,h2,ds2,_,w6',w7',r',o',rfl,hd2,hi2⟩) ⟨d1,none,none,none,[],none,rfl,hd1,LR⟩
  have hi:K6 (e9 ns d1 W [] none none none none none)=some (bg 0 20,[],e9 ns d1 W [] none none none none none):=dr (n:=20) rfl (by decide) (by decide)
  have hfor:oK [5] K6 (aq 5) Iy (e9 ns d1 W [] none none none none none,[(.s 3,dc W [] none)])=some (.nx (e9 ns d W r o w5 w6 w7 none,[(.s 3,dc W r o)])):=by
    unfold oK
    rw [hi]
    exact h1
  have wL:∀x∈[Pz "may",Pz "kept",Pz "back",Pz "back",Pz "kept"],L9 W x:=fun x hx=>by
    simp only [Qz,QZ,or_false] at hx
    rcases hx with rfl | rfl | rfl | rfl | rfl
    · exact .may
    · exact .kept
    · exact .back
    · exact .back
    · exact .kept
  obtain⟨x2,h2,w8,r2,o2,rfl, -⟩:=pO (W1:=[8]) (g:=aq 8) (f:=Iz) (fun _ x=>∃w8 r o,x=(e9 ns d W r o w5 w6 w7 w8,[(.s 3,dc W r o)])∧Iv W r o) ([Pz "may",Pz "kept",Pz "back",Pz "back",Pz "kept"].map .str) 0 (e9 ns d W r o w5 w6 w7 none,[(.s 3,dc W r o)]) (fun i dd x hx hJ=>by
    obtain⟨w8,r,o,rfl,hi⟩:=hJ
    rw [Qu] at hx
    obtain⟨y,hy,rfl⟩:=Pt hx
    obtain⟨r',o',t,hi',ht,hD⟩:=d9 ok hi (wL y (Py hy))
    exact⟨e9 ns d W r o w5 w6 w7 (some (.str y)),_,rfl,rfl,rfl,Ll ht hD,_,r',o',rfl,hi'⟩) ⟨none,r,o,rfl,hI⟩
  have hi3:K7 (e9 ns d W r o w5 w6 w7 none)=some ([Pz "may",Pz "kept",Pz "back",Pz "back",Pz "kept"].map .str,[],e9 ns d W r o w5 w6 w7 none):=rfl
  have hfor2:oK [8] K7 (aq 8) Iz (e9 ns d W r o w5 w6 w7 none,[(.s 3,dc W r o)])=some (.nx (e9 ns d W r2 o2 w5 w6 w7 w8,[(.s 3,dc W r2 o2)])):=by
    unfold oK
    rw [hi3]
    exact h2
  have m1:=C6 (ao W)
  have e1:Ob.dk (x_ (ao W) (.tuple []) .none)=dc W [] none:=rfl
  rw [e1] at m1
  have hb:tw ([some (.d (.list (ns.map .int))),none,none,none,none,none,none,none,none],[])=some (.rt (.bool true) (e9 ns d W r2 o2 w5 w6 w7 w8,[(.s 3,dc W r2 o2)])):=by
    have s1:dy [1] (aS 1 (cB 1 k9 (ac (ae 0) aj))) ([some (.d (.list (ns.map .int))),none,none,none,none,none,none,none,none],[])=some (.nx ([some (.d (.list (ns.map .int))),some (.l (ds.map .int)),none,none,none,none,none,none,none],[])):=by
      generalize ns.map PyData.int=N at*
      generalize ds.map PyData.int=d0 at*
      simp? [dy,j3,okO,td]
    have s2:dy [2] (aS 2 (cB 3 se (ac (ae 1) (ac (vC (.int 8)) (ac (vC (.int 16)) aj))))) ([some (.d (.list (ns.map .int))),some (.l (ds.map .int)),none,none,none,none,none,none,none],[])=some (.nx ([some (.d (.list (ns.map .int))),some (.l (d1.map .int)),some (.d (ao W)),none,none,none,none,none,none],[])):=by
      generalize ao W=wb at*
      generalize ns.map PyData.int=N at*
      generalize d1.map PyData.int=d1' at*
      generalize ds.map PyData.int=d0 at*
      simp? [dy,j3,okO,t1]
    have s3:BJ 3 b5 (aC (ae 2)) ([some (.d (.list (ns.map .int))),some (.l (d1.map .int)),some (.d (ao W)),none,none,none,none,none,none],[])=some (.nx ([some (.d (.list (ns.map .int))),some (.l (d1.map .int)),some (.d (ao W)),none,none,none,none,none,none],[(.s 3,dc W [] none)])):=by
      have hv:(ae 2) [some (Sv.d (.list (ns.map .int))),some (Sv.l (d1.map .int)),some (Sv.d (ao W)),none,none,none,none,none,none]=some (.d (ao W),[some (Sv.d (.list (ns.map .int))),some (Sv.l (d1.map .int)),some (Sv.d (ao W)),none,none,none,none,none,none]):=rfl
      unfold BJ aC
      dsimp only
      rw [hv]
      simp only [Qb,iw,okO,List.all_nil,if_true]
      rw [m1]
      rfl
    have s4:dy [4] (aS 4 (cc (ac (cc aj) (ac (qV wM (vC (.int 1))) aj)))) ([some (.d (.list (ns.map .int))),some (.l (d1.map .int)),some (.d (ao W)),none,none,none,none,none,none],[(.s 3,dc W [] none)])=some (.nx (e9 ns d1 W [] none none none none none,[(.s 3,dc W [] none)])):=rfl
    unfold tw
    rw [Ed s1,Ed s2,Ed s3,Ed s4,Ed hfor,Ed hfor2]
    unfold bI aC
    simp only [vC,Qb,iw,Mq,if_true,Qy]
  refine⟨[.d (.list (ns.map .int))],?_⟩
  have hm:nR ([some (.d (.list (ns.map .int)))],[])=some (.bool true,[]):=by
    unfold nR gu
    rw [if_pos ⟨rfl,rfl⟩]
    show(tw ([some (.d (.list (ns.map .int))),none,none,none,none,none,none,none,none],[])).bind _=_
    rw [hb]
    rfl
  show AD nR [.d (.list (ns.map .int))]=_
  unfold AD
  refine(if_pos (show uV [some (.d (.list (ns.map .int)))]=true from rfl)).trans ?_
  show(nR ([some (.d (.list (ns.map .int)))],[])).map _=_
  rw [hm]
  rfl
theorem C4{P:List MG→Prop}(h:∀a0,P [a0]):∀us:List MG,us.length=1→P us:=fun us e=>match us,e with | [a0],_=>h a0
theorem qU{P:List MG→Prop}(h:∀a0 a1,P [a0,a1]):∀us:List MG,us.length=2→P us:=fun us e=>match us,e with | [a0,a1],_=>h a0 a1
theorem Cr{P:List MG→Prop}(h:∀a0 a1 a2,P [a0,a1,a2]):∀us:List MG,us.length=3→P us:=fun us e=>match us,e with | [a0,a1,a2],_=>h a0 a1 a2
theorem LV{P:List MG→Prop}(h:∀a0 a1 a2 a3,P [a0,a1,a2,a3]):∀us:List MG,us.length=4→P us:=fun us e=>match us,e with | [a0,a1,a2,a3],_=>h a0 a1 a2 a3
abbrev hQ(w:PJ)(n:Str)(s:PN)(a c:xM)(d p:MG):Prop:=(Rx (kK w.params) Qn n,QP a (kK w.params),Te (kK w.params) (.ref c) n,Sa (kK w.params) (.ref a))=(some (some (.ref a)),some (kF n s d p c),true,true)
theorem hm{w:PJ}{h:PL}{mg:Str→Option MG}{n:Str}{s:PN}{a c:xM}{d p:MG}{ps:List Str}(X:(kK w.params).In h)(G:h.Ns Qn mg)
    (e:hQ w n s a c d p)
    (b:∀(kV doc pm:MG) (an:Option xM) (cdv ct:MG) (us:List MG),us.length=ps.length→bindArgs (Rb n n (eg s) (cO s) (ar s) .none kV doc pm an cdv ct) ⟨us,[]⟩=pure (ps.zip us)):
    fy (kK w.params) mg n s a (Rb n n (eg s) (cO s) (ar s) .none .none d p none (.ref c) .none) ps:=FW X G (congrArg (·.1) e) (congrArg (·.2.1) e) (congrArg (·.2.2.1) e) (congrArg (·.2.2.2) e) b
theorem tY(w:PJ):hQ w "things_of" dA 135 134 (.none) Cq:=by kernel_rfl
theorem tW(w:PJ):hQ w "many_asks" gC 140 139 (.none) Cq:=by kernel_rfl
theorem mI(w:PJ):hQ w "bears_one_more" cI 147 146 (.none) Cq:=by kernel_rfl
theorem w_(w:PJ):hQ w "may_ask" ik 152 151 (.none) Cq:=by kernel_rfl
theorem o_(w:PJ):hQ w "stand_behind" dz 159 158 (.none) Cq:=by kernel_rfl
theorem tX(w:PJ):hQ w "number_of" gD 202 201 (.none) Km:=by kernel_rfl
theorem vh(w:PJ):hQ w "row_line" fR 214 213 (.none) Km:=by kernel_rfl
theorem wZ(w:PJ):hQ w "kept_of" ij 219 218 (.none) Kn:=by kernel_rfl
theorem rf(w:PJ):hQ w "worth_kept" fx 224 223 (.none) Kn:=by kernel_rfl
theorem wY(w:PJ):hQ w "asks_at" jj 229 228 (.none) LS:=by kernel_rfl
theorem pb(w:PJ):hQ w "stand_of_run" cJ 279 278 (.none) uF:=by kernel_rfl
theorem vg(w:PJ):hQ w "may_line" iF 291 290 (.none) uF:=by kernel_rfl
theorem tV(w:PJ):hQ w "kept_line" gB 310 309 (.none) uF:=by kernel_rfl
theorem rd(w:PJ):hQ w "tie_to_ask" fw 317 316 (.none) uF:=by kernel_rfl
theorem Av(w:PJ):hQ w "_law_mixed" m5 374 373 (.none) hV:=by kernel_rfl
theorem Au(w:PJ):hQ w "_law_draws" mZ 381 380 (.none) hV:=by kernel_rfl
theorem CV(w:PJ):hQ w "_law_next" kJ 388 387 (.none) hV:=by kernel_rfl
theorem Gc(w:PJ):hQ w "_law_gcd" vI 395 394 (.none) hV:=by kernel_rfl
theorem Gd(w:PJ):hQ w "_law_low" vJ 402 401 (.none) hV:=by kernel_rfl
theorem zm(w:PJ):hQ w "_law_chance" kG 409 408 (.none) hV:=by kernel_rfl
theorem Ax(w:PJ):hQ w "_law_worth" m6 416 415 (.none) hV:=by kernel_rfl
theorem CY(w:PJ):hQ w "_law_ties" qy 423 422 (.none) hV:=by kernel_rfl
theorem Gg(w:PJ):hQ w "_law_web" vL 430 429 (.none) hV:=by kernel_rfl
theorem wV(w:PJ):hQ w "_law_asks_of" jg 435 434 (.none) hV:=by kernel_rfl
theorem Ge(w:PJ):hQ w "_law_may" sy 442 441 (.none) hV:=by kernel_rfl
theorem zl(w:PJ):hQ w "_law_behind" kB 449 448 (.none) hV:=by kernel_rfl
theorem wU(w:PJ):hQ w "_law_askable" jf 454 453 (.none) hV:=by kernel_rfl
theorem CU(w:PJ):hQ w "_law_kept" qu 459 458 (.none) hV:=by kernel_rfl
theorem Gf(w:PJ):hQ w "_law_row" vK 464 463 (.none) hV:=by kernel_rfl
theorem Aw(w:PJ):hQ w "_law_stood" lh 471 470 (.none) hV:=by kernel_rfl
theorem ve(w:PJ):hQ w "_law_due_word" iD 476 475 (.none) hV:=by kernel_rfl
theorem wW(w:PJ):hQ w "_law_due_ask" jh 483 482 (.none) hV:=by kernel_rfl
theorem CT(w:PJ):hQ w "_law_deed" nZ 490 489 (.none) hV:=by kernel_rfl
theorem Gb(w:PJ):hQ w "_law_due" vH 497 496 (.none) hV:=by kernel_rfl
theorem CW(w:PJ):hQ w "_law_sign" qx 504 503 (.none) hV:=by kernel_rfl
theorem vf(w:PJ):hQ w "_law_odd_line" iE 511 510 (.none) hV:=by kernel_rfl
theorem wX(w:PJ):hQ w "_law_is_line" ji 516 515 (.none) hV:=by kernel_rfl
theorem Gh(w:PJ):hQ w "law" qB 523 522 (.none) hV:=by kernel_rfl
theorem all_mk{l:W.OpenLaw}{w:PJ}{h:PL}{mg:Str→Option MG}{fa:xM}(X:(kK w.params).In h)(G:h.Ns Qn mg)(hfa:mg "law"=some (.ref fa)):
    ∃fd:PZ,(∀(s:PB) (v:MG),BindsTo s fd ⟨[v],[]⟩ [("_law_script",v)])∧∀base:PL,(kK w.params).In base→base.Ns Qn mg→aP l.prog w (kK w.params) mg base cM 8 fa fd ["_law_script"] (eA (kK w.params) 1 vm):=by
  have e:=hfa.symm.trans (RM X G (show Rx (kK w.params) Qn "law"=some (some (.ref 523)) by kernel_rfl))
  cases e
  have nn:∀{n:Str},Rx (kK w.params) Qn n=some none→mg n=none:=fun e=>W.mg_none_of X G e
  have T:ck mg:=⟨nn (by kernel_rfl),nn (by kernel_rfl),nn (by kernel_rfl),nn (by kernel_rfl),nn (by kernel_rfl),nn (by kernel_rfl),nn (by kernel_rfl),nn (by kernel_rfl),nn (by kernel_rfl),nn (by kernel_rfl),nn (by kernel_rfl),nn (by kernel_rfl),nn (by kernel_rfl),nn (by kernel_rfl),nn (by kernel_rfl),nn (by kernel_rfl),nn (by kernel_rfl),nn (by kernel_rfl)⟩
  have MS:=hm (ps:=["web","tie"]) X G (tY w) fun _ _ _ _ _ _=>qU fun _ _=>rfl
  have Na:=hm (ps:=["web","asked","thing"]) X G (tW w) fun _ _ _ _ _ _=>Cr fun _ _ _=>rfl
  have MU:=hm (ps:=["web","stand","thing"]) X G (mI w) fun _ _ _ _ _ _=>Cr fun _ _ _=>rfl
  have M4:=hm (ps:=["web","stand","tie"]) X G (w_ w) fun _ _ _ _ _ _=>Cr fun _ _ _=>rfl
  have MY:=hm (ps:=["web","stand","tie","truth"]) X G (o_ w) fun _ _ _ _ _ _=>LV fun _ _ _ _=>rfl
  have Nb:=hm (ps:=["word"]) X G (tX w) fun _ _ _ _ _ _=>C4 fun _=>rfl
  have M0:=hm (ps:=["row"]) X G (vh w) fun _ _ _ _ _ _=>C4 fun _=>rfl
  have M9:=hm (ps:=["run"]) X G (wZ w) fun _ _ _ _ _ _=>C4 fun _=>rfl
  have M5:=hm (ps:=["web","run"]) X G (rf w) fun _ _ _ _ _ _=>qU fun _ _=>rfl
  have Nl:=hm (ps:=["web","stand"]) X G (wY w) fun _ _ _ _ _ _=>qU fun _ _=>rfl
  have MQ:=hm (ps:=["web","run"]) X G (pb w) fun _ _ _ _ _ _=>qU fun _ _=>rfl
  have M1:=hm (ps:=["web","run"]) X G (vg w) fun _ _ _ _ _ _=>qU fun _ _=>rfl
  have MW:=hm (ps:=["web","run"]) X G (tV w) fun _ _ _ _ _ _=>qU fun _ _=>rfl
  have MZ:=hm (ps:=["web","line"]) X G (rd w) fun _ _ _ _ _ _=>qU fun _ _=>rfl
  have NF:=hm (ps:=["_law_cell","_law_k"]) X G (Av w) fun _ _ _ _ _ _=>qU fun _ _=>rfl
  have NI:=hm (ps:=["_law_script"]) X G (Au w) fun _ _ _ _ _ _=>C4 fun _=>rfl
  have MT:=hm (ps:=["_law_drawn"]) X G (CV w) fun _ _ _ _ _ _=>C4 fun _=>rfl
  have Ov:=hm (ps:=["_law_one","_law_other"]) X G (Gc w) fun _ _ _ _ _ _=>qU fun _ _=>rfl
  have Oe:=hm (ps:=["_law_top","_law_bottom"]) X G (Gd w) fun _ _ _ _ _ _=>qU fun _ _=>rfl
  have Ny:=hm (ps:=["_law_number","_law_kind"]) X G (zm w) fun _ _ _ _ _ _=>qU fun _ _=>rfl
  have NO:=hm (ps:=["_law_number","_law_kind"]) X G (Ax w) fun _ _ _ _ _ _=>qU fun _ _=>rfl
  have NY:=hm (ps:=["_law_drawn","_law_things","_law_many"]) X G (CY w) fun _ _ _ _ _ _=>Cr fun _ _ _=>rfl
  have Os:=hm (ps:=["_law_drawn","_law_most","_law_ties_here"]) X G (Gg w) fun _ _ _ _ _ _=>Cr fun _ _ _=>rfl
  have Nm:=hm (ps:=["_law_web_here","_law_asked","_law_thing"]) X G (wV w) fun _ _ _ _ _ _=>Cr fun _ _ _=>rfl
  have N5:=hm (ps:=["_law_web_here","_law_stand","_law_tie"]) X G (Ge w) fun _ _ _ _ _ _=>Cr fun _ _ _=>rfl
  have Nz:=hm (ps:=["_law_web_here","_law_stand","_law_tie","_law_truth"]) X G (zl w) fun _ _ _ _ _ _=>LV fun _ _ _ _=>rfl
  have Nn:=hm (ps:=["_law_web_here","_law_stand"]) X G (wU w) fun _ _ _ _ _ _=>qU fun _ _=>rfl
  have NZ:=hm (ps:=["_law_web_here","_law_run"]) X G (CU w) fun _ _ _ _ _ _=>qU fun _ _=>rfl
  have Oi:=hm (ps:=["_law_numbers"]) X G (Gf w) fun _ _ _ _ _ _=>C4 fun _=>rfl
  have Nt:=hm (ps:=["_law_web_here","_law_run"]) X G (Aw w) fun _ _ _ _ _ _=>qU fun _ _=>rfl
  have Nh:=hm (ps:=["_law_web_here","_law_state","_law_word"]) X G (ve w) fun _ _ _ _ _ _=>Cr fun _ _ _=>rfl
  have Np:=hm (ps:=["_law_web_here","_law_state","_law_tie"]) X G (wW w) fun _ _ _ _ _ _=>Cr fun _ _ _=>rfl
  have NG:=hm (ps:=["_law_drawn","_law_web_here"]) X G (CT w) fun _ _ _ _ _ _=>qU fun _ _=>rfl
  have NX:=hm (ps:=["_law_web_here","_law_state","_law_line"]) X G (Gb w) fun _ _ _ _ _ _=>Cr fun _ _ _=>rfl
  have N1:=hm (ps:=["_law_number"]) X G (CW w) fun _ _ _ _ _ _=>C4 fun _=>rfl
  have M':=hm (ps:=["_law_drawn","_law_web_here"]) X G (vf w) fun _ _ _ _ _ _=>qU fun _ _=>rfl
  have Ng:=hm (ps:=["_law_web_here","_law_line"]) X G (wX w) fun _ _ _ _ _ _=>qU fun _ _=>rfl
  have Pc:=hm (ps:=["_law_script"]) X G (Gh w) fun _ _ _ _ _ _=>C4 fun _=>rfl
  have F_Desk___init__:=lI (K:=(kK w.params)) (x:="__init__") (qual:="Desk.__init__") (st:=et) (f:=332) (oc:=.type "function") (od:=none) (an:=none) (osl:=#[]) (kV:=.none) (doc:=.none) (pm:=uF) (cdv:=.ref 331) (ct:=.none) (by kernel_rfl) (by kernel_rfl) (by kernel_rfl)
  have B_Desk___init__:=uE.binds F_Desk___init__ (ps:=["self","web"]) fun _ _ _ _ _ _=>qU fun _ _=>rfl
  have F_Desk_say:=lI (K:=(kK w.params)) (x:="say") (qual:="Desk.say") (st:=jO) (f:=339) (oc:=.type "function") (od:=none) (an:=none) (osl:=#[]) (kV:=.none) (doc:=.none) (pm:=uF) (cdv:=.ref 338) (ct:=.none) (by kernel_rfl) (by kernel_rfl) (by kernel_rfl)
  have B_Desk_say:=uE.binds F_Desk_say (ps:=["self","line"]) fun _ _ _ _ _ _=>qU fun _ _=>rfl
  have me_Desk_say:nF (kK w.params) 363 "say" 339:=⟨by kernel_rfl,by kernel_rfl,by kernel_rfl⟩
  have F_Desk_take_ask:=lI (K:=(kK w.params)) (x:="take_ask") (qual:="Desk.take_ask") (st:=eu) (f:=346) (oc:=.type "function") (od:=none) (an:=none) (osl:=#[]) (kV:=.none) (doc:=.none) (pm:=uF) (cdv:=.ref 345) (ct:=.none) (by kernel_rfl) (by kernel_rfl) (by kernel_rfl)
  have B_Desk_take_ask:=uE.binds F_Desk_take_ask (ps:=["self","tie"]) fun _ _ _ _ _ _=>qU fun _ _=>rfl
  have me_Desk_take_ask:nF (kK w.params) 363 "take_ask" 346:=⟨by kernel_rfl,by kernel_rfl,by kernel_rfl⟩
  have F_Desk_take_answer:=lI (K:=(kK w.params)) (x:="take_answer") (qual:="Desk.take_answer") (st:=cT) (f:=353) (oc:=.type "function") (od:=none) (an:=none) (osl:=#[]) (kV:=.none) (doc:=.none) (pm:=uF) (cdv:=.ref 352) (ct:=.none) (by kernel_rfl) (by kernel_rfl) (by kernel_rfl)
  have B_Desk_take_answer:=uE.binds F_Desk_take_answer (ps:=["self","truth"]) fun _ _ _ _ _ _=>qU fun _ _=>rfl
  have me_Desk_take_answer:nF (kK w.params) 363 "take_answer" 353:=⟨by kernel_rfl,by kernel_rfl,by kernel_rfl⟩
  have F_Desk_take_back:=lI (K:=(kK w.params)) (x:="take_back") (qual:="Desk.take_back") (st:=dP) (f:=360) (oc:=.type "function") (od:=none) (an:=none) (osl:=#[]) (kV:=.none) (doc:=.none) (pm:=uF) (cdv:=.ref 359) (ct:=.none) (by kernel_rfl) (by kernel_rfl) (by kernel_rfl)
  have B_Desk_take_back:=uE.binds F_Desk_take_back (ps:=["self"]) fun _ _ _ _ _ _=>C4 fun _=>rfl
  have me_Desk_take_back:nF (kK w.params) 363 "take_back" 360:=⟨by kernel_rfl,by kernel_rfl,by kernel_rfl⟩
  have lG_47:QP 47 (kK w.params)=some (kT [.int (0) 233,.int (1) 234] 0):=by kernel_rfl
  have m_ZERO:=RM X G (show Rx (kK w.params) Qn "ZERO"=some (some (.ref 47)) by kernel_rfl)
  have c_ZERO:∀F,DA (kK w.params) F (.tuple [.int (0),.int (1)]) (.ref 47):=fun F=>by simp only [DA,aT];exact⟨47,[V.int (0),V.int (1)],rfl,.inr ⟨_,_,_,lG_47,rfl,rfl,rfl,(by show 2≤PY;decide),(.cons ⟨_,rfl⟩ (.cons ⟨_,rfl⟩ .nil))⟩,⟨_,_,rfl,rfl,⟨_,_,rfl,rfl,rfl⟩⟩⟩
  have lG_128:QP 128 (kK w.params)=some (kT [.ref 126,.ref 127] 0):=by kernel_rfl
  have lG_126:QP 126 (kK w.params)=some (kT [] 0):=by kernel_rfl
  have lG_127:QP 127 (kK w.params)=some (kT [] 0):=by kernel_rfl
  have m_FIRST_STAND:=RM X G (show Rx (kK w.params) Qn "FIRST_STAND"=some (some (.ref 128)) by kernel_rfl)
  have c_FIRST_STAND:∀F,DA (kK w.params) F (.tuple [.tuple [],.tuple []]) (.ref 128):=fun F=>by simp only [DA,aT];exact⟨128,[V.ref 126,V.ref 127],rfl,.inr ⟨_,_,_,lG_128,rfl,rfl,rfl,(by show 2≤PY;decide),(.cons rfl (.cons rfl .nil))⟩,⟨_,_,rfl,⟨126,[],rfl,.inr ⟨_,_,_,lG_126,rfl,rfl,rfl,(by show 0≤PY;decide),.nil⟩,rfl⟩,⟨_,_,rfl,⟨127,[],rfl,.inr ⟨_,_,_,lG_127,rfl,rfl,rfl,(by show 0≤PY;decide),.nil⟩,rfl⟩,rfl⟩⟩⟩
  have m_END:=RM X G (show Rx (kK w.params) Qn "END"=some (some (.int (-1) 384)) by kernel_rfl)
  have m_MOST_TIES_OF_BOUND:=RM X G (show Rx (kK w.params) Qn "MOST_TIES_OF_BOUND"=some (some (.int (10) 405)) by kernel_rfl)
  have m_MOST_FIGURES:=RM X G (show Rx (kK w.params) Qn "MOST_FIGURES"=some (some (.int (4) 441)) by kernel_rfl)
  have m_MOST_TIES_OF_TABLE:=RM X G (show Rx (kK w.params) Qn "MOST_TIES_OF_TABLE"=some (some (.int (7) 513)) by kernel_rfl)
  have mQ:=RM X G (show Rx (kK w.params) Qn "QUESTIONS"=some (some (.ref 318)) by kernel_rfl)
  have TQ:Ie (kK w.params) w 318 [("may",291),("best",296),("bound",303),("kept",310)]:=⟨⟨[kE w.params "may" 616 (.ref 291),kE w.params "best" 617 (.ref 296),kE w.params "bound" 618 (.ref 303),kE w.params "kept" 619 (.ref 310)].toArray,4,by kernel_rfl,(.cons ⟨rfl,⟨_,rfl⟩,rfl⟩ (.cons ⟨rfl,⟨_,rfl⟩,rfl⟩ (.cons ⟨rfl,⟨_,rfl⟩,rfl⟩ (.cons ⟨rfl,⟨_,rfl⟩,rfl⟩ .nil))))⟩,by decide+kernel,rfl⟩
  have hks:[(("may":Str),(291:xM)),(("best":Str),(296:xM)),(("bound":Str),(303:xM)),(("kept":Str),(310:xM))].map (·.1)=Hr:=rfl
  have a_may:QP ("may":Str) [(("may":Str),(291:xM)),(("best":Str),(296:xM)),(("bound":Str),(303:xM)),(("kept":Str),(310:xM))]=some 291:=rfl
  have a_kept:QP ("kept":Str) [(("may":Str),(291:xM)),(("best":Str),(296:xM)),(("bound":Str),(303:xM)),(("kept":Str),(310:xM))]=some 310:=rfl
  have cls:qW (kK w.params) 363:=⟨by kernel_rfl,by kernel_rfl,by kernel_rfl,by kernel_rfl⟩
  have na_web:bU (kK w.params) 363 "web":=show Rg (kK w.params) (.ref 363) "web"=some none by kernel_rfl
  have na_run:bU (kK w.params) 363 "run":=show Rg (kK w.params) (.ref 363) "run"=some none by kernel_rfl
  have na_waiting:bU (kK w.params) 363 "waiting":=show Rg (kK w.params) (.ref 363) "waiting"=some none by kernel_rfl
  have MK:Mk (kK w.params) 363 332:=⟨by kernel_rfl,by kernel_rfl,by kernel_rfl,by kernel_rfl⟩
  have mC:=RM X G (show Rx (kK w.params) Qn "Desk"=some (some (.ref 363)) by kernel_rfl)
  refine⟨Rb "law" "law" (eg qB) (cO qB) (ar qB) .none .none (.none) hV none (.ref 522) .none,fun s v=>.of_eq rfl,fun base _ _=>?_⟩
  have cl:∀{f:xM} {fd:PZ} {n:Str} {s:PN} {ps:List Str} {lv k:Nat} {m:FM},fy (kK w.params) mg n s f fd ps→aP l.prog w (kK w.params) mg base cM lv f fd ps (eA (kK w.params) k m)→Cl l.prog w (kK w.params) mg base n s ps lv k m:=fun h g=>⟨_,_,h,g⟩
  have z_things_of:=cl MS (uh MS T)
  have z_many_asks:=cl Na (uf Na T z_things_of)
  have z_bears_one_more:=cl MU (mM MU T z_many_asks)
  have M_:=xo (P:=l.prog) (w:=w) (base:=base) M4 T z_bears_one_more z_things_of
  have z_may_ask:=cl M4 M_
  have z_stand_behind:=cl MY (pd MY T z_things_of)
  have z_number_of:=cl Nb (ug Nb T m_MOST_FIGURES)
  have z_row_line:=cl M0 (vA M0 T)
  have z_kept_of:=cl M9 (xn M9 T)
  have z_worth_kept:=cl M5 (rh M5 T z_kept_of)
  have z_asks_at:=cl Nl (xm Nl T z_may_ask)
  have MR:=pe (P:=l.prog) (w:=w) (base:=base) MQ T z_stand_behind m_FIRST_STAND c_FIRST_STAND
  have z_stand_of_run:=cl MQ MR
  have Nj:=vz (P:=l.prog) (w:=w) (base:=base) M1 T z_asks_at z_stand_of_run z_row_line
  have z_may_line:=cl M1 Nj
  have Nf:=ue (P:=l.prog) (w:=w) (base:=base) MW T z_kept_of z_row_line z_worth_kept
  have z_kept_line:=cl MW Nf
  have M6:=rg (P:=l.prog) (w:=w) (base:=base) MZ T z_number_of
  have z_tie_to_ask:=cl MZ M6
  have zLmixed:=cl NF (AX NF T)
  have NP:=AW (P:=l.prog) (w:=w) (base:=base) NI T zLmixed
  have zLdraws:=cl NI NP
  have zLnext:=cl MT (Dh MT T)
  have zLgcd:=cl Ov (GL Ov T)
  have zLlow:=cl Oe (GM Oe T zLgcd)
  have zLchance:=cl Ny (zt Ny T zLlow)
  have zLworth:=cl NO (AZ NO T)
  have zLties:=cl NY (Dj NY T zLnext zLchance zLworth)
  have Oy:=GP (P:=l.prog) (w:=w) (base:=base) Os T zLties zLnext
  have zLweb:=cl Os Oy
  have zLasks_of:=cl Nm (xj Nm T)
  have zLmay:=cl N5 (GN N5 T zLasks_of)
  have zLbehind:=cl Nz (zr Nz T)
  have zLaskable:=cl Nn (xi Nn T zLmay)
  have zLkept:=cl NZ (Dg NZ T)
  have zLrow:=cl Oi (GO Oi T)
  have zLstood:=cl Nt (AY Nt T zLbehind)
  have zLdue_word:=cl Nh (vx Nh T zLrow zLaskable zLkept zLstood)
  have zLdue_ask:=cl Np (xk Np T zLmay zLstood)
  have NK:=Df (P:=l.prog) (w:=w) (base:=base) NG T zLnext
  have zLdeed:=cl NG NK
  have N7:=GK (P:=l.prog) (w:=w) (base:=base) NX T zLdue_word zLdue_ask
  have zLdue:=cl NX N7
  have zLsign:=cl N1 (Di N1 T)
  have Nk:=vy (P:=l.prog) (w:=w) (base:=base) M' T zLnext zLdeed zLsign
  have zLodd_line:=cl M' Nk
  have Nq:=xl (P:=l.prog) (w:=w) (base:=base) Ng T
  have zLis_line:=cl Ng Nq
  have G_Desk___init__:=mN (P:=l.prog) (w:=w) (base:=base) (C:=363) F_Desk___init__ T cls na_run na_waiting na_web
  have G_Desk_take_answer:=kr (P:=l.prog) (w:=w) (base:=base) (C:=363) F_Desk_take_answer T cls na_run na_waiting na_web
  have G_Desk_take_back:=lO (P:=l.prog) (w:=w) (base:=base) (C:=363) F_Desk_take_back T cls na_run na_waiting
  have G_Desk_take_ask:=mO (P:=l.prog) (w:=w) (base:=base) (C:=363) F_Desk_take_ask T M4 M_ MQ MR cls na_run na_waiting na_web
  have G_Desk_say:=ui (P:=l.prog) (w:=w) (base:=base) (C:=363) F_Desk_say T MZ M6 me_Desk_take_answer B_Desk_take_answer G_Desk_take_answer me_Desk_take_back B_Desk_take_back G_Desk_take_back M1 Nj MW Nf me_Desk_take_ask B_Desk_take_ask G_Desk_take_ask cls na_run na_web TQ hks mQ a_may a_kept
  have Pd:=GD (Dl (P:=l.prog) (w:=w) (base:=base) (C:=363) Pc T NI NP Os Oy MK mC B_Desk___init__ G_Desk___init__ M' Nk NG NK Ng Nq me_Desk_say B_Desk_say G_Desk_say NX N7 cls)
  exact Pd
def JU(K:PF):Sp:=fun vs H Q _=>∃(a:xM) (ns:List Int),vs=[.ref a]∧iJ K H a (ns.map V.int)∧ns.length≤63∧∀H',Q (.bl true) H'
theorem Gk{K:PF}{vs:List V}{H:Hp}{Q:VK}{E:XK}(h:JU K vs H Q E):eA K 1 vm vs H Q E:=by
  obtain⟨a,ns,rfl,hS,hl,q⟩:=h
  obtain⟨as',hm⟩:=AB ns hl
  exact xC hS hm q
theorem walk{l:W.OpenLaw}{q:PK}{loose:List Str}{XP:(Str→Option MG)→PL→Prop}{YP:PJ→PL→Prop}{d:DefRec}{K:Params→PF}(hn:l.most=some 63)(hdf:d.params.defaults=[])
    (hY:∀(w:PJ) (h:PL),YP w h→(K w.params).In h)
    (F:∀(w:PJ) (mg:Str→Option MG) (fa:xM) (h:PL),(K w.params).In h→h.Ns Qn mg→mg d.name=some (.ref fa)→
      ∃fd:PZ,(∀(s:PB) (u:MG),BindsTo s fd ⟨[u],[]⟩ [("_law_script",u)])∧∀base:PL,(K w.params).In base→base.Ns Qn mg→aP l.prog w (K w.params) mg base cM 8 fa fd ["_law_script"] (eA (K w.params) 1 vm)):
    W.WalkO q loose XP YP l.row.toRowW d [] (fun f vs=>PySem.call f vs):=
  L2.walk_of (n:=63) (k:=8) (x:="_law_script") (CX:=fun _=>cM) (sp:=fun w=>eA (K w.params) 1 vm) hn (by decide) hdf ⟨rfl,by decide,by decide,rfl⟩ hY F (fun _ _ a ns hl _ hS=>Gk ⟨a,ns,rfl,hS,hl,fun _=>rfl⟩) fun _ _ _ _ _ z=>z
end V92
open PySem PySem.W PyProof.Rows
set_option maxRecDepth 100000 in
set_option maxHeartbeats 0 in
theorem PySem.Challenge.cw_askedpairs_k92_no_words_holds : PySem.Challenge.rw_askedpairs_k92_no_words.Holds := by
  w_on;o_law
  refine holds_open (q:=V92.kq) (loose:=["QUESTIONS"]) (Xt:=fun s=>xlAt V92.kq [] s&&recOk (RowW.records (OpenRow.toRowW (OpenLaw.row Uh))) s) (XP:=XL V92.kq []) (Yf:=Hook.obs V92.kH) (Ya:=Hook.val V92.kH) (YP:=Hook.says V92.kH) (N:=6234) V92.left (Hook.of V92.kH) (Hook.keeps V92.kH) (fun s e=>xl_of s (UJ.mp e).1) XL.keeps (by rfl) (by rfl) (by rfl) (fun s e=>recFacts_of (UJ.mp e).2) (by rfl) (by assumption) (by decide+kernel) ⟨rfl,rfl,rfl,rfl,rfl,by decide+kernel⟩ ?hw ?hc
  case hw=>w_witness2
  case hc=>exact V92.walk (l:=Uh) rfl rfl (fun w h Y=>kIn_of Y) (fun w mg fa h KX G hmg=>V92.all_mk KX G hmg)
