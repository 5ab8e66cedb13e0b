import PyProof.Rows.All
import KE.KRevSl
import KE.KItem
import KE.KFromBytes
import KE.KIntText
import KE.KIsAll
import KE.KRevIter
import PySem.Challenge.RW_askedpairs_k87_asked_and_answered
open PySem renaming Addr→xM,Value→Kg,Shared→MP,PyData→MT,Expr→MU,World→MV,Heap→MY,Program→MZ,Stmt→Na,Around→Nb,wpAny→Nc,starEach→Nf,model→Ng,eval→Nh,wpAny_bind→Ni,FuncData→Nj,sizeLine→Nl,wpAny_pure→Nm,backTo→Nr,Scope→Nz,mainGlobals→NA,cellsFrom→NB,assignEach→NL,binaryOp→NM,compareOp→NO,importedModules→NT,sizeLine_eq→NU,Keyword→NV,NameKind→NW,attributeBase→Oh,wpAny_mono→On,behindInMarks→Ov,call_meets→Ow,bootBuiltins→OA,backToKw→OF,keywordEach→OG,swapsWith→OT,DictEntry→Pe,wpAny_newObj_type→Pj,wpAny_passesOwn→Pk,sliceBounds→Po,wpAny_loadPart'→Pr,foldedSetIterable→PB,wpAny_truthy_bool→PM,swapsWithSole→PN,swappedStores→PP,wpAny_Call_Name_kw→PR,mem_of_lookup→PU,typeIs_int→PY,intText?→Qb,wpAny_execs_nil→Qf,letOwnedTupleGo→Qg
open PySem.W renaming Frag→MS,openSeen→NY,fnOf→Ol,findIn→Oq,nsIn→OD,mg_of→OP,boot_heap→OR,emptyDict→OV,instObj→OW,keepIn→OY,isStarred→Pc,kia_one→Px,codeIn→PX,lookIn→Qh,plainGet→Qi,callWith_K→Qk,methodObj→QC,hasDictIn→QG,plainGet_of→QH
open PySem.Str renaming ofString→MW,empty→Pm
open List renaming replicate→Nk,getElem?_set_ne→Nq,size_toArray→Nx,length_map→NC,map_cons→ND,getElem?_map→NF,lookup→NJ,mem_singleton→NN,lookup_cons→NP,all_eq_true→NQ,getElem?_set_self→Od,map_nil→Oe,mem_append→Of,mem_cons_of_mem→Om,getElem?_eq_getElem→Ot,Nodup→Ou,mem_cons→Oz,append_nil→OC,getElem?_append_left→OH,mem_map→OI,mem_cons_self→OL,mem_append_right→OM,length_cons→OU,range→OX,nodup_cons→OZ,replicate_succ→Pa,nil_append→Pb,cons_append→Pd,mem_filter→Ph,length_set→Pt,ext_getElem?→Pu,not_mem_nil→Pv,map→Pw,getElem?_set→Py,foldl→PH,mem_range→PL,length_append→PV,lookup_append→Qa,flatten_cons→Qm,getElem_mem→Qv,findIdx?_eq_none_iff→Qx,any_cons→Qy,mem_filterMap→QD,filterMap_cons→QE,getElem?_replicate→QI,length_replicate→QJ,length_eq_zero_iff→QO,pairwise_cons→QP,getD_eq_getElem?_getD→QQ,drop_eq_getElem_cons→QT,drop_eq_nil_of_le→QU,mem_of_mem_tail→QY,findIdx?_eq_some_iff_getElem→Rj
open Nat renaming le_refl→Nn,le_trans→NG,lt_of_lt_of_le→NS,ne_of_lt→Oc,zero_le→ON,lt_irrefl→OS,le_of_lt→Pi,zero_add→PK,pow_le_pow_right→Qp,lt_of_le_of_lt→QM
open Int renaming gcd→Np,emod_nonneg→Qd,emod_lt_of_pos→Qe,fdiv_mul_cancel→Qq,lt_of_lt_of_le→QZ
open PySem.Heap renaming lt_size→Nt,get?_push_of_some→NH,get?_push_size→Oa,SameBut→Pz,size_push→PQ
open PySem.Challenge renaming pw_askedpairs_k87_asked_and_answered→Nu,rw_askedpairs_k87_asked_and_answered→QA
open Option renaming bind_some→Nv,map_some→NZ,getD_some→Qt,map_eq_some_iff→QB
open Ne renaming symm→Ny
open PySem.SeqAt renaming shaped→NI,canLay_of_shaped→Qw
open PySem.PyData renaming strOk→NK,canLay0→NR,depth→Oj,canLayAll0→Ox,eqv→Oy,depthAll→OQ,shownAll→Qr,showableAll→Qs
open Bool renaming and_eq_true→NX,false_ne_true→Pl,eq_iff_iff→Qu,false_eq_true→QN,and_eq_true_iff→Ra
open Option.some renaming inj→Og,injEq→Pf
open PySem.NameKind renaming free→Oi,cell→Pq
open False renaming elim→Oo
open PyProof.Rows renaming kindOf→Os,IntsAre→OO,slot_tuple_getitem→Pn,boot_str→QV,callWith_type1→Rb
open PySem.Txt renaming slice→OE,split→OJ,isdecimal→Qc
open PySem.PassesOwn renaming never→OK
open PySem.Obj renaming mapSeq→Pp
open True renaming intro→PD
open PySem.Builtin.Tuple renaming tupleExact→PF,tupleTooMany→QS,tupleItemsOf→Rf
open ForInStep renaming yield→PJ
open PySem.F renaming slot_tuple_mul→PZ,slot_list_pop→Qn,slot_int_rmul→Qo,slot_str_split→Qz,plainAttrs_str→QW
open PySem.Around renaming under→Qj
open PySem.Builtin.Slice renaming slicePlaces→Ql,sliceAdjust→QK,sliceApplied→Re
open Array renaming length_toList→QF
open PySem.Builtin.List renaming listTooLong→QL,listExtendWith→Rg
open PySem.AutoSeq1 renaming idx_int→QR
open PySem.Builtin.Str renaming occurrences→QX
open PySem.Builtin.SmallTypes renaming nextOf→Rh
set_option Elab.async false
set_option linter.all false
set_option maxRecDepth 100000
namespace L2
open PySem PySem.Spec PyProof.Rows
def cU(s:Na):Arguments:=match s with
  | .FunctionDef _ a _ _ _ _ _ _ _ _=>a
  | _=>{posonlyargs:=[],args:=[],vararg:=none,kwonlyargs:=[],kw_defaults:=[],kwarg:=none,defaults:=[]}
def cc(s:Na):List Na:=match s with
  | .FunctionDef _ _ b _ _ _ _ _ _ _=>b
  | _=>[]
def ag(s:Na):Nz:=match s with
  | .FunctionDef _ _ _ _ _ _ sc _ _ _=>sc
  | _=>{kind:=.function,names:=[],isGenerator:=false,isCoroutine:=false}
end L2
namespace V87
open PySem PySem.Spec PyProof.Rows L2
def top(i:Nat):Na:=Nu.main.body.getD i (.Pass ⟨0,0,0,0⟩)
abbrev cB:Na:=top 21
abbrev eF:Na:=top 22
abbrev bT:Na:=top 23
abbrev e_:Na:=top 24
abbrev cA:Na:=top 25
abbrev eG:Na:=top 39
abbrev d9:Na:=top 41
abbrev e8:Na:=top 43
abbrev dH:Na:=top 44
abbrev g_:Na:=top 46
abbrev bU:Na:=top 57
abbrev fZ:Na:=top 59
abbrev eE:Na:=top 62
abbrev dG:Na:=top 63
abbrev k_:Na:=top 67
abbrev k9:Na:=top 68
abbrev jq:Na:=top 69
abbrev tR:Na:=top 70
abbrev tS:Na:=top 71
abbrev jp:Na:=top 72
abbrev lc:Na:=top 73
abbrev oK:Na:=top 74
abbrev tU:Na:=top 75
abbrev g9:Na:=top 76
abbrev qi:Na:=top 77
abbrev jo:Na:=top 78
abbrev gZ:Na:=top 79
abbrev oI:Na:=top 80
abbrev fY:Na:=top 81
abbrev fX:Na:=top 82
abbrev tQ:Na:=top 83
abbrev oJ:Na:=top 84
abbrev oM:Na:=top 85
abbrev oO:Na:=top 86
def ye:Na→Nat→Na
  | .ClassDef _ _ _ body _ _ _ _ _ _ _,j=>body.getD j (.Pass ⟨0,0,0,0⟩)
  | s,_=>s
abbrev cW:Na:=ye (top 65) 0
abbrev iP:Na:=ye (top 65) 1
abbrev cX:Na:=ye (top 65) 2
abbrev cg:Na:=ye (top 65) 3
abbrev cH:Na:=ye (top 65) 4
def kL(n:Str)(bs mro:List Kg)(ns:xM)(sub:List Kg)(sl:Array (Option Kg)):Obj:=⟨.type "type",none,.cls {name:=n,bases:=bs,mro:=mro,ns:=ns,qualname:=n,hasDict:=true,slotNames:=[],subclasses:=sub,abstract:=false,collection:=none,hasDel:=false},sl⟩
def kM(n q:Str)(s:Na)(doc pm:Kg)(c:xM):Obj:=⟨.type "function",none,.func (Ol n q (cU s) (cc s) (ag s) .none .none doc pm none (.ref c) .none),#[]⟩
def kD(n q:Str)(a:Nat)(l:List Kg)(z:Nat):Obj:=⟨.type "code",none,.fields (Value.str n a::Value.str q (a+1)::Value.str "/claim/cut.py" (a+2)::l++[Value.str "/claim/cut.py" z]).toArray,#[]⟩
def kE(P:Params)(k:Str)(t:Tok)(v:Kg):Pe:=⟨PyData.keyHash P k,.str k t,v⟩
def kF(n:Str)(s:Na)(doc pm:Kg)(c:xM):Obj:=⟨.type "function",none,.func (Ol n n (cU s) (cc s) (ag s) .none .none doc pm none (.ref c) .none),#[]⟩
def kI(n:Int):Kg:=.int n 0
def kC(n:Str)(a:Nat)(l:List Kg)(z:Nat):Obj:=⟨.type "code",none,.fields (Value.str n a::Value.str n (a+1)::Value.str "/claim/cut.py" (a+2)::l++[Value.str "/claim/cut.py" z]).toArray,#[]⟩
def kT(l:List Kg)(n:Nat):Obj:=⟨.type "tuple",none,.seq l.toArray n,#[]⟩
def Ax:Kg:=.str "askedpairs.stands" 337
def HM:Kg:=.str "askedpairs.lines" 439
def HN:Kg:=.str "askedpairs.runs" 466
def Jq:Kg:=.str "askedpairs.tablepaper" 480
def rV:Kg:=.str "askedpairs.desk" 555
def gQ:Kg:=.str "law_askedpairs_k87_asked_and_answered" 690
def kK(P:Params):MS:=[(3,⟨.type "dict",none,.dict (List.toArray [kE P "__name__" 165 (.str "law_askedpairs_k87_asked_and_answered" 690),kE P "__doc__" 166 (.none),kE P "__package__" 167 (.none),kE P "__loader__" 168 (.builtin "__main__.__loader__#opaque"),kE P "__spec__" 169 (.none),kE P "__annotations__" 170 (.ref 6),kE P "__builtins__" 171 (.ref 4),kE P "__file__" 173 (.str "/claim/cut.py" 172),kE P "__cached__" 174 (.none),kE P "PairsError" 206 (.ref 24),kE P "TooMany" 222 (.ref 37),kE P "refuse_above" 230 (.ref 46),kE P "ZERO" 235 (.ref 47),kE P "common_divisor" 243 (.ref 54),kE P "lowest" 252 (.ref 61),kE P "plus" 260 (.ref 68),kE P "times" 268 (.ref 75),kE P "less" 276 (.ref 82),kE P "one_less" 283 (.ref 89),kE P "total" 292 (.ref 96),kE P "column_to_enter" 300 (.ref 101),kE P "is_sooner" 310 (.ref 108),kE P "row_to_leave" 324 (.ref 115),kE P "exchanged" 330 (.ref 120),kE P "best_levels" 336 (.ref 125),kE P "FIRST_STAND" 339 (.ref 128),kE P "things_of" 347 (.ref 135),kE P "many_asks" 353 (.ref 140),kE P "bears_one_more" 364 (.ref 147),kE P "may_ask" 370 (.ref 152),kE P "stand_behind" 382 (.ref 159),kE P "END" 385 (.int (-1) 384),kE P "gain_of" 394 (.ref 166),kE P "shares_worth" 402 (.ref 171),kE P "MOST_TIES_OF_BOUND" 406 (.int (10) 405),kE P "rows_of" 412 (.ref 176),kE P "limits_of" 423 (.ref 183),kE P "as_prices" 432 (.ref 190),kE P "bound" 438 (.ref 195),kE P "MOST_FIGURES" 442 (.int (4) 441),kE P "number_of" 450 (.ref 202),kE P "fraction_word" 459 (.ref 209),kE P "row_line" 465 (.ref 214),kE P "kept_of" 473 (.ref 219),kE P "worth_kept" 479 (.ref 224),kE P "asks_at" 487 (.ref 229),kE P "both_ways" 498 (.ref 236),kE P "ways_at" 504 (.ref 241),kE P "ways_worth" 510 (.ref 246),kE P "MOST_TIES_OF_TABLE" 514 (.int (7) 513),kE P "layers_by_asks" 520 (.ref 251),kE P "best_ask" 532 (.ref 258),kE P "table_by" 546 (.ref 265),kE P "table_of" 554 (.ref 272),kE P "stand_of_run" 567 (.ref 279),kE P "web_left" 573 (.ref 284),kE P "may_line" 582 (.ref 291),kE P "best_line" 588 (.ref 296),kE P "bound_line" 596 (.ref 303),kE P "kept_line" 605 (.ref 310),kE P "tie_to_ask" 615 (.ref 317),kE P "QUESTIONS" 624 (.ref 318),kE P "Desk" 689 (.ref 363),kE P "_law_mixed" 700 (.ref 374),kE P "_law_draws" 711 (.ref 381),kE P "_law_next" 718 (.ref 388),kE P "_law_gcd" 726 (.ref 395),kE P "_law_low" 735 (.ref 402),kE P "_law_chance" 744 (.ref 409),kE P "_law_worth" 752 (.ref 416),kE P "_law_ties" 771 (.ref 423),kE P "_law_web" 787 (.ref 430),kE P "_law_asks_of" 793 (.ref 435),kE P "_law_may" 805 (.ref 442),kE P "_law_behind" 818 (.ref 449),kE P "_law_askable" 824 (.ref 454),kE P "_law_kept" 830 (.ref 459),kE P "_law_stand_of" 841 (.ref 466),kE P "_law_row_text" 847 (.ref 471),kE P "_law_due" 853 (.ref 476),kE P "_law_line" 864 (.ref 483),kE P "_law_told" 874 (.ref 490),kE P "law" 889 (.ref 497)]) 83,#[]⟩),
  (135,kF "things_of" cB (.none) Ax 134),
  (134,kC "things_of" 340 [kI 75,kI 2,kI 0,kI 0,kI 3,.ref 129,.bool true,kI 181,.ref 130,.none,.ref 131,.ref 132,.ref 133,kI 345,kI 75] 346),
  (140,kF "many_asks" eF (.none) Ax 139),
  (139,kC "many_asks" 348 [kI 77,kI 3,kI 0,kI 0,kI 3,.ref 136,.bool true,kI 181,.ref 137,.none,.none,.none,.ref 138,kI 351,kI 77] 352),
  (147,kF "bears_one_more" bT (.none) Ax 146),
  (146,kC "bears_one_more" 354 [kI 79,kI 3,kI 0,kI 0,kI 3,.ref 141,.bool true,kI 181,.ref 142,.none,.ref 143,.ref 144,.ref 145,kI 362,kI 79] 363),
  (152,kF "may_ask" e_ (.none) Ax 151),
  (151,kC "may_ask" 365 [kI 82,kI 3,kI 0,kI 0,kI 3,.ref 148,.bool true,kI 181,.ref 149,.none,.none,.none,.ref 150,kI 368,kI 82] 369),
  (159,kF "stand_behind" cA (.none) Ax 158),
  (158,kC "stand_behind" 371 [kI 87,kI 4,kI 0,kI 0,kI 3,.ref 153,.bool true,kI 181,.ref 154,.none,.ref 155,.ref 156,.ref 157,kI 380,kI 87] 381),
  (202,kF "number_of" eG (.none) HM 201),
  (201,kC "number_of" 443 [kI 122,kI 1,kI 0,kI 0,kI 3,.ref 196,.bool true,kI 181,.ref 197,.none,.ref 198,.ref 199,.ref 200,kI 448,kI 122] 449),
  (214,kF "row_line" d9 (.none) HM 213),
  (213,kC "row_line" 460 [kI 130,kI 1,kI 0,kI 0,kI 3,.ref 210,.bool true,kI 181,.ref 211,.none,.none,.none,.ref 212,kI 463,kI 130] 464),
  (219,kF "kept_of" e8 (.none) HN 218),
  (218,kC "kept_of" 468 [kI 133,kI 1,kI 0,kI 0,kI 3,.ref 215,.bool true,kI 181,.ref 216,.none,.none,.none,.ref 217,kI 471,kI 133] 472),
  (224,kF "worth_kept" dH (.none) HN 223),
  (223,kC "worth_kept" 474 [kI 135,kI 2,kI 0,kI 0,kI 3,.ref 220,.bool true,kI 181,.ref 221,.none,.none,.none,.ref 222,kI 477,kI 135] 478),
  (229,kF "asks_at" g_ (.none) Jq 228),
  (228,kC "asks_at" 482 [kI 138,kI 2,kI 0,kI 0,kI 3,.ref 225,.bool true,kI 181,.ref 226,.none,.none,.none,.ref 227,kI 485,kI 138] 486),
  (279,kF "stand_of_run" bU (.none) rV 278),
  (278,kC "stand_of_run" 557 [kI 177,kI 2,kI 0,kI 0,kI 3,.ref 273,.bool true,kI 181,.ref 274,.none,.ref 275,.ref 276,.ref 277,kI 565,kI 177] 566),
  (291,kF "may_line" fZ (.none) rV 290),
  (290,kC "may_line" 574 [kI 188,kI 2,kI 0,kI 0,kI 3,.ref 285,.bool true,kI 181,.ref 286,.none,.ref 287,.ref 288,.ref 289,kI 580,kI 188] 581),
  (310,kF "kept_line" eE (.none) rV 309),
  (309,kC "kept_line" 597 [kI 204,kI 2,kI 0,kI 0,kI 3,.ref 304,.bool true,kI 181,.ref 305,.none,.ref 306,.ref 307,.ref 308,kI 603,kI 204] 604),
  (317,kF "tie_to_ask" dG (.none) rV 316),
  (316,kC "tie_to_ask" 606 [kI 207,kI 2,kI 0,kI 0,kI 3,.ref 311,.bool true,kI 181,.ref 312,.none,.ref 313,.ref 314,.ref 315,kI 613,kI 207] 614),
  (374,kF "_law_mixed" k_ (.none) gQ 373),
  (373,kC "_law_mixed" 692 [kI 257,kI 2,kI 0,kI 0,kI 3,.ref 368,.bool true,kI 181,.ref 369,.none,.ref 370,.ref 371,.ref 372,kI 698,kI 257] 699),
  (381,kF "_law_draws" k9 (.none) gQ 380),
  (380,kC "_law_draws" 701 [kI 260,kI 1,kI 0,kI 0,kI 3,.ref 375,.bool true,kI 181,.ref 376,.none,.ref 377,.ref 378,.ref 379,kI 709,kI 260] 710),
  (388,kF "_law_next" jq (.none) gQ 387),
  (387,kC "_law_next" 712 [kI 273,kI 1,kI 0,kI 0,kI 3,.ref 382,.bool true,kI 181,.ref 383,.none,.ref 384,.ref 385,.ref 386,kI 716,kI 273] 717),
  (395,kF "_law_gcd" tR (.none) gQ 394),
  (394,kC "_law_gcd" 719 [kI 277,kI 2,kI 0,kI 0,kI 3,.ref 389,.bool true,kI 181,.ref 390,.none,.ref 391,.ref 392,.ref 393,kI 724,kI 277] 725),
  (402,kF "_law_low" tS (.none) gQ 401),
  (401,kC "_law_low" 727 [kI 281,kI 2,kI 0,kI 0,kI 3,.ref 396,.bool true,kI 181,.ref 397,.none,.ref 398,.ref 399,.ref 400,kI 733,kI 281] 734),
  (409,kF "_law_chance" jp (.none) gQ 408),
  (408,kC "_law_chance" 736 [kI 284,kI 2,kI 0,kI 0,kI 3,.ref 403,.bool true,kI 181,.ref 404,.none,.ref 405,.ref 406,.ref 407,kI 742,kI 284] 743),
  (416,kF "_law_worth" lc (.none) gQ 415),
  (415,kC "_law_worth" 745 [kI 294,kI 2,kI 0,kI 0,kI 3,.ref 410,.bool true,kI 181,.ref 411,.none,.ref 412,.ref 413,.ref 414,kI 750,kI 294] 751),
  (423,kF "_law_ties" oK (.none) gQ 422),
  (422,kC "_law_ties" 753 [kI 296,kI 3,kI 0,kI 0,kI 3,.ref 417,.bool true,kI 181,.ref 418,.none,.ref 419,.ref 420,.ref 421,kI 769,kI 296] 770),
  (430,kF "_law_web" tU (.none) gQ 429),
  (429,kC "_law_web" 772 [kI 311,kI 3,kI 0,kI 0,kI 3,.ref 424,.bool true,kI 181,.ref 425,.none,.ref 426,.ref 427,.ref 428,kI 785,kI 311] 786),
  (435,kF "_law_asks_of" g9 (.none) gQ 434),
  (434,kC "_law_asks_of" 788 [kI 321,kI 3,kI 0,kI 0,kI 3,.ref 431,.bool true,kI 181,.ref 432,.none,.none,.none,.ref 433,kI 791,kI 321] 792),
  (442,kF "_law_may" qi (.none) gQ 441),
  (441,kC "_law_may" 794 [kI 323,kI 3,kI 0,kI 0,kI 3,.ref 436,.bool true,kI 181,.ref 437,.none,.ref 438,.ref 439,.ref 440,kI 803,kI 323] 804),
  (449,kF "_law_behind" jo (.none) gQ 448),
  (448,kC "_law_behind" 806 [kI 331,kI 4,kI 0,kI 0,kI 3,.ref 443,.bool true,kI 181,.ref 444,.none,.ref 445,.ref 446,.ref 447,kI 816,kI 331] 817),
  (454,kF "_law_askable" gZ (.none) gQ 453),
  (453,kC "_law_askable" 819 [kI 337,kI 2,kI 0,kI 0,kI 3,.ref 450,.bool true,kI 181,.ref 451,.none,.none,.none,.ref 452,kI 822,kI 337] 823),
  (459,kF "_law_kept" oI (.none) gQ 458),
  (458,kC "_law_kept" 825 [kI 339,kI 2,kI 0,kI 0,kI 3,.ref 455,.bool true,kI 181,.ref 456,.none,.none,.none,.ref 457,kI 828,kI 339] 829),
  (466,kF "_law_stand_of" fY (.none) gQ 465),
  (465,kC "_law_stand_of" 831 [kI 341,kI 2,kI 0,kI 0,kI 3,.ref 460,.bool true,kI 181,.ref 461,.none,.ref 462,.ref 463,.ref 464,kI 839,kI 341] 840),
  (471,kF "_law_row_text" fX (.none) gQ 470),
  (470,kC "_law_row_text" 842 [kI 346,kI 1,kI 0,kI 0,kI 3,.ref 467,.bool true,kI 181,.ref 468,.none,.none,.none,.ref 469,kI 845,kI 346] 846),
  (476,kF "_law_due" tQ (.none) gQ 475),
  (475,kC "_law_due" 848 [kI 350,kI 3,kI 0,kI 0,kI 3,.ref 472,.bool true,kI 181,.ref 473,.none,.none,.none,.ref 474,kI 851,kI 350] 852),
  (483,kF "_law_line" oJ (.none) gQ 482),
  (482,kC "_law_line" 854 [kI 375,kI 3,kI 0,kI 0,kI 3,.ref 477,.bool true,kI 181,.ref 478,.none,.ref 479,.ref 480,.ref 481,kI 862,kI 375] 863),
  (490,kF "_law_told" oM (.none) gQ 489),
  (489,kC "_law_told" 865 [kI 383,kI 3,kI 0,kI 0,kI 3,.ref 484,.bool true,kI 181,.ref 485,.none,.ref 486,.ref 487,.ref 488,kI 872,kI 383] 873),
  (497,kF "law" oO (.none) gQ 496),
  (496,kC "law" 875 [kI 386,kI 1,kI 0,kI 0,kI 3,.ref 491,.bool true,kI 181,.ref 492,.none,.ref 493,.ref 494,.ref 495,kI 887,kI 386] 888),
  (332,kM "__init__" "Desk.__init__" cW (.none) rV 331),
  (331,kD "__init__" "Desk.__init__" 637 [kI 216,kI 2,kI 0,kI 0,kI 3,.ref 326,.bool true,kI 181,.ref 327,.none,.ref 328,.ref 329,.ref 330,kI 642,kI 216] 643),
  (339,kM "say" "Desk.say" iP (.none) rV 338),
  (338,kD "say" "Desk.say" 645 [kI 221,kI 2,kI 0,kI 0,kI 3,.ref 333,.bool true,kI 181,.ref 334,.none,.ref 335,.ref 336,.ref 337,kI 652,kI 221] 653),
  (346,kM "take_ask" "Desk.take_ask" cX (.none) rV 345),
  (345,kD "take_ask" "Desk.take_ask" 655 [kI 234,kI 2,kI 0,kI 0,kI 3,.ref 340,.bool true,kI 181,.ref 341,.none,.ref 342,.ref 343,.ref 344,kI 660,kI 234] 661),
  (353,kM "take_answer" "Desk.take_answer" cg (.none) rV 352),
  (352,kD "take_answer" "Desk.take_answer" 663 [kI 240,kI 2,kI 0,kI 0,kI 3,.ref 347,.bool true,kI 181,.ref 348,.none,.ref 349,.ref 350,.ref 351,kI 669,kI 240] 670),
  (360,kM "take_back" "Desk.take_back" cH (.none) rV 359),
  (359,kD "take_back" "Desk.take_back" 672 [kI 248,kI 1,kI 0,kI 0,kI 3,.ref 354,.bool true,kI 181,.ref 355,.none,.ref 356,.ref 357,.ref 358,kI 676,kI 248] 677),
  (47,kT [.int (0) 233,.int (1) 234] 0),
  (128,kT [.ref 126,.ref 127] 0),
  (126,kT [] 0),
  (127,kT [] 0),
  (318,⟨.type "dict",none,.dict (List.toArray [kE P "may" 616 (.ref 291),kE P "best" 617 (.ref 296),kE P "bound" 618 (.ref 303),kE P "kept" 619 (.ref 310)]) 4,#[]⟩),
  (363,kL "Desk" [.type "object"] [.ref 363,.type "object"] 362 [] #[none,none,some (.str "Desk" 625),some (.str "Desk" 633),some (.builtin "object.__new__"),some (.bool true)]),
  (362,⟨.type "dict",none,.dict (List.toArray [kE P "__module__" 632 (.str "askedpairs.desk" 555),kE P "__firstlineno__" 636 (.int (214) 635),kE P "__init__" 644 (.ref 332),kE P "say" 654 (.ref 339),kE P "take_ask" 662 (.ref 346),kE P "take_answer" 671 (.ref 353),kE P "take_back" 678 (.ref 360),kE P "__static_attributes__" 682 (.ref 361),kE P "__dict__" 684 (.ref 364),kE P "__weakref__" 686 (.ref 365),kE P "__doc__" 687 (.none)]) 4,#[]⟩)]
def kA:List xM:=[3,135,134,140,139,147,146,152,151,159,158,202,201,214,213,219,218,224,223,229,228,279,278,291,290,310,309,317,316,374,373,381,380,388,387,395,394,402,401,409,408,416,415,423,422,430,429,435,434,442,441,449,448,454,453,459,458,466,465,471,470,476,475,483,482,490,489,497,496,332,331,339,338,346,345,353,352,360,359,47,128,126,127,318,363,362]
def kq:MZ:={Nu with main:={Nu.main with body:=[top 1,top 2,top 3,top 5,top 6,top 7,top 8,top 9,top 10,top 11,top 12,top 14,top 15,top 16,top 17,top 18,top 20,top 21,top 22,top 23,top 24,top 25,top 26,top 28,top 30,top 32,top 33,top 34,top 35,top 36,top 38,top 39,top 40,top 41,top 43,top 44,top 46,top 47,top 48,top 49,top 51,top 52,top 53,top 54,top 55,top 57,top 58,top 59,top 60,top 61,top 62,top 63,top 64,top 65,top 67,top 68,top 69,top 70,top 71,top 72,top 73,top 74,top 75,top 76,top 77,top 78,top 79,top 80,top 81,top 82,top 83,top 84,top 85,top 86]}}
def kH:W.Hook:=W.kHook kK kA (fun _=>by kernel_rfl)
abbrev lX(s:MP):Bool:=W.xlAt kq [] s&&W.recOk (W.RowW.records (W.OpenRow.toRowW (W.OpenLaw.row QA))) s
def wF(p:MZ)(w:MV):Nat→W.SharedT→Thread→Option W.SharedT
  | 0,_,_=>none
  | n+1,s,t=>match W.through t with
    | true=>some s
    | false=>match W.stepOk 11 (some (.ref 6)) t with
      | false=>none
      | true=>match W.stepT (denote treeTable) p w s t with
        | some (x,y)=>wF p w n x y
        | none=>none
theorem Dc{p:MZ}{w:MV}:∀{n:Nat} {s r:W.SharedT} {t:Thread},wF p w n s t=some r→W.topRun treeTable p w 11 (some (.ref 6)) n s.abs t=some r.abs
  | 0,_,_,_,h=>by cases h
  | n+1,s,r,t,h=>by
    unfold wF at h
    unfold W.topRun
    split at h
    · next e=>rw [e];cases h;rfl
    · next e=>
      rw [e]
      split at h
      · cases h
      · next k=>
        rw [k]
        split at h
        · next g=>rw [W.stepT_spec g];exact Dc h
        · cases h
def Da:List Obj→Nat→W.BT→W.BT
  | [],_,t=>t
  | o::r,n,t=>Da r (n+1) (t.ins n o)
noncomputable def HC(w:MV)(os:OsState):W.SharedT:=⟨Da (OR w.params).objs.toList 0 .nil,11,(OR w.params).life,#[],W.boot_drawn,W.boot_toks,os⟩
theorem FC:(fun w os=>(HC w os).abs)=fun w os=>⟨OR w.params,#[],W.boot_drawn,W.boot_toks,os⟩:=by kernel_rfl
theorem HB:(fun w:MV=>((OR w.params).isNs NA,(OR w.params).objs.size,(OR w.params).nsMap NA "__annotations__"))=fun _=>(true,11,some (.ref 6)):=by kernel_rfl
noncomputable def pe(p:MZ)(w:MV)(s:MP):Bool:=W.staticsOk (NT p.main.body) (OR w.params) s.heap&&W.namesBound p s.heap&&W.gensDone s&&W.laidKept (OR w.params) s.heap
def l4(p:MZ)(r:MV→MV)(N:Nat){α:Type}(f:MV→MP→α)(a:MV→α):Prop:=∀w,(fun os=>(wF p (r w) N (HC w os) (W.topStub p)).map fun x=>f w x.abs)=fun _=>some (a (r w))
theorem Cp{p q:MZ}{L:List Str}{X:MP→Bool}{α:Type}{Yf:MP→α}{Ya:MV→α}{N:Nat}(o:W.opening p=W.plainProg p.main.scope.names)(hN:Nat.ble 600 N=true)(fe:fenceModules? p=some)
    (h:∀w,∃r:MV→MV,r w=w∧l4 p r N (fun w s=>(pe p w s,NY q L (NT p.main.body) X true s,Yf s)) fun w=>(true,W.openGood q L,Ya w)):W.LeftO p q L X Yf Ya N:=fun w=>by
  obtain⟨s,e,k⟩:=QB.1 (W.boot_open (N:=N) o hN (fun s=>congrFun fe s) w)
  obtain⟨r,rw1,h⟩:=h w
  obtain⟨H,g,d,t,os⟩:=s
  cases k
  have z:=congrFun (h w) os
  rw [rw1] at z
  obtain⟨y,ey,hy⟩:=QB.1 z
  have a:=Dc ey
  rw [congrFun (congrFun FC w) os] at a
  have b:=congrFun HB w
  simp only [Prod.mk.injEq] at b hy
  have c:W.topFrom treeTable p w N ⟨OR w.params,#[],W.boot_drawn,W.boot_toks,os⟩=some y.abs:=by
    unfold W.topFrom
    dsimp only
    rw [b.1,b.2.1,b.2.2,a]
    have m:=hy.1
    unfold pe at m
    simp only [Nv,m]
    rfl
  unfold W.openEnds
  rw [e,Nv]
  exact(congrArg (Option.map _) c).trans (congrArg some (Prod.ext hy.2.1 hy.2.2))
theorem FD{p:MZ}{N:Nat}{α:Type}{f:MV→MP→α}{a:MV→α}{row:String}(h:∀b,l4 p (fun w=>w.withFollow row b) N f a):∀w:MV,∃r:MV→MV,r w=w∧l4 p r N f a:=fun w=>⟨_,World.withFollow_self w row,h (w.params.followText row)⟩
theorem DV:l4 Nu (fun w=>w.withFollow "special-get-raises" false) 5988 (fun v s=>(pe Nu v s,(NY kq ["QUESTIONS"] (NT Nu.main.body) lX true s).1)) (fun v=>(true,expectedOf kq)):=fun w=>by kernel_rfl
theorem DY:l4 Nu (fun w=>w.withFollow "special-get-raises" false) 5988 (fun v s=>((NY kq ["QUESTIONS"] (NT Nu.main.body) lX true s).2.1,(NY kq ["QUESTIONS"] (NT Nu.main.body) lX true s).2.2.1)) (fun v=>(bltViewBooted,true)):=fun w=>by kernel_rfl
theorem D3:l4 Nu (fun w=>w.withFollow "special-get-raises" false) 5988 (fun v s=>(NY kq ["QUESTIONS"] (NT Nu.main.body) lX true s).2.2.2.1) (fun v=>true):=fun w=>by kernel_rfl
theorem D6:l4 Nu (fun w=>w.withFollow "special-get-raises" false) 5988 (fun v s=>((NY kq ["QUESTIONS"] (NT Nu.main.body) lX true s).2.2.2.2.1,(NY kq ["QUESTIONS"] (NT Nu.main.body) lX true s).2.2.2.2.2.1)) (fun v=>(pinGoodD (drecsOf kq),plainGoodE kq (W.looseW kq ["QUESTIONS"]))):=fun w=>by kernel_rfl
theorem D8:l4 Nu (fun w=>w.withFollow "special-get-raises" false) 5988 (fun v s=>((NY kq ["QUESTIONS"] (NT Nu.main.body) lX true s).2.2.2.2.2.2,W.Hook.obs kH s)) (fun v=>((plainGoodD kq ["QUESTIONS"],W.wideGood kq,W.clsGoodW kq ["QUESTIONS"]),W.Hook.val kH v)):=fun w=>by kernel_rfl
theorem DX:l4 Nu (fun w=>w.withFollow "special-get-raises" true) 5988 (fun v s=>(pe Nu v s,(NY kq ["QUESTIONS"] (NT Nu.main.body) lX true s).1)) (fun v=>(true,expectedOf kq)):=fun w=>by kernel_rfl
theorem DZ:l4 Nu (fun w=>w.withFollow "special-get-raises" true) 5988 (fun v s=>((NY kq ["QUESTIONS"] (NT Nu.main.body) lX true s).2.1,(NY kq ["QUESTIONS"] (NT Nu.main.body) lX true s).2.2.1)) (fun v=>(bltViewBooted,true)):=fun w=>by kernel_rfl
theorem D4:l4 Nu (fun w=>w.withFollow "special-get-raises" true) 5988 (fun v s=>(NY kq ["QUESTIONS"] (NT Nu.main.body) lX true s).2.2.2.1) (fun v=>true):=fun w=>by kernel_rfl
theorem D7:l4 Nu (fun w=>w.withFollow "special-get-raises" true) 5988 (fun v s=>((NY kq ["QUESTIONS"] (NT Nu.main.body) lX true s).2.2.2.2.1,(NY kq ["QUESTIONS"] (NT Nu.main.body) lX true s).2.2.2.2.2.1)) (fun v=>(pinGoodD (drecsOf kq),plainGoodE kq (W.looseW kq ["QUESTIONS"]))):=fun w=>by kernel_rfl
theorem D9:l4 Nu (fun w=>w.withFollow "special-get-raises" true) 5988 (fun v s=>((NY kq ["QUESTIONS"] (NT Nu.main.body) lX true s).2.2.2.2.2.2,W.Hook.obs kH s)) (fun v=>((plainGoodD kq ["QUESTIONS"],W.wideGood kq,W.clsGoodW kq ["QUESTIONS"]),W.Hook.val kH v)):=fun w=>by kernel_rfl
noncomputable def Jf(v:MV)(s:MP):=(pe Nu v s,(NY kq ["QUESTIONS"] (NT Nu.main.body) lX true s),W.Hook.obs kH s)
noncomputable def Je(v:MV):=(true,W.openGood kq ["QUESTIONS"],W.Hook.val kH v)
theorem HA{τ β0 β1 β2 β3 β4 β5 β6 β7 β8:Type}{o:Option τ}{a0:τ→β0}{a1:τ→β1}{a2:τ→β2}{a3:τ→β3}{a4:τ→β4}{a5:τ→β5}{a6:τ→β6}{a7:τ→β7}{a8:τ→β8}{c0:β0}{c1:β1}{c2:β2}{c3:β3}{c4:β4}{c5:β5}{c6:β6}{c7:β7}{c8:β8}
    (h:o.map (fun x=>(a0 x,a1 x))=some (c0,c1))(k:o.map (fun x=>(a2 x,a3 x))=some (c2,c3))(n:o.map a4=some c4)(l:o.map (fun x=>(a5 x,a6 x))=some (c5,c6))(m:o.map (fun x=>(a7 x,a8 x))=some (c7,c8)):
    o.map (fun x=>(a0 x,(a1 x,a2 x,a3 x,a4 x,a5 x,a6 x,a7 x),a8 x))=some (c0,(c1,c2,c3,c4,c5,c6,c7),c8):=by
  cases o with
  | none=>cases h
  | some x=>
    simp only [NZ,Pf,Prod.mk.injEq] at h k l m n ⊢
    exact⟨h.1,⟨h.2,k.1,k.2,n,l.1,l.2,m.1⟩,m.2⟩
theorem left:W.LeftO Nu kq ["QUESTIONS"] lX (W.Hook.obs kH) (W.Hook.val kH) 5988:=Cp (by kernel_rfl) (by kernel_rfl) (by kernel_rfl) (FD (row:="special-get-raises") (f:=Jf) (a:=Je) fun b=>match b with | false=>fun w=>funext fun os=>HA (congrFun (DV w) os) (congrFun (DY w) os) (congrFun (D3 w) os) (congrFun (D6 w) os) (congrFun (D8 w) os) | true=>fun w=>funext fun os=>HA (congrFun (DX w) os) (congrFun (DZ w) os) (congrFun (D4 w) os) (congrFun (D7 w) os) (congrFun (D9 w) os))
end V87
namespace L2
open PySem PySem.Spec PyProof.Rows
theorem MJ{α:Type _}{β:Type _}{o:Option α}{f:α→Option β}{b:β}(h:o.bind f=some b):∃a,o=some a∧f a=some b:=Option.bind_eq_some_iff.mp h
theorem ML{α:Type _}{β:Type _}{o:Option α}{f:α→β}{b:β}(h:o.map f=some b):∃a,o=some a∧f a=b:=QB.mp h
theorem MN{α:Type _}{l:List α}{i:Nat}{a:α}(h:l[i]?=some a):∃w:i<l.length,l[i]=a:=List.getElem?_eq_some_iff.mp h
theorem MO{α:Type _}{a:α}{s t:List α}(h:a∈s++t):a∈s∨a∈t:=Of.mp h
theorem MQ{α:Type _}{a b:α}{l:List α}(h:a∈b::l):a=b∨a∈l:=Oz.mp h
theorem MR{α:Type _}{l:List α}{i:Nat}{a:α}(h:l[i]?=some a):a∈l:=List.mem_of_getElem? h
abbrev iZ:=Sum Int Str
def sS:iZ→Kg→Bool
  | .inl k,v=>Value.isInt k v
  | .inr x,v=>Value.isStrOf x v
def IH(w:MV):iZ→Int
  | .inl k=>hashInt k
  | .inr x=>hashStr w x
theorem bJ:∀{k:iZ} {v:Kg},sS k v=true→(∃i t,k=Sum.inl i∧v=Value.int i t)∨(∃x t,k=Sum.inr x∧v=Value.str x t)
  | .inl i,v,h=>by
    obtain⟨t,e⟩:=Value.isInt_shape (k:=i) (v:=v) h
    exact .inl ⟨i,t,rfl,e⟩
  | .inr x,v,h=>by
    obtain⟨t,e⟩:=Value.isStrOf_shape (x:=x) (v:=v) h
    exact .inr ⟨x,t,rfl,e⟩
theorem jC(x:Str)(t:Tok):sS (.inr x) (.str x t)=true:=by simp [sS,Value.isStrOf]
theorem DH(a b:Int):decide ((Sum.inl a:iZ)=Sum.inl b)=(a==b):=by
  by_cases e:a=b
  · subst e;simp
  · have h:¬(Sum.inl a:iZ)=Sum.inl b:=fun q=>e (Sum.inl.inj q)
    rw [decide_eq_false h]
    exact(beq_eq_false_iff_ne.mpr e).symm
theorem DM(a b:Str):decide ((Sum.inr a:iZ)=Sum.inr b)=decide (a=b):=by
  by_cases e:a=b
  · subst e;simp
  · have h:¬(Sum.inr a:iZ)=Sum.inr b:=fun q=>e (Sum.inr.inj q)
    rw [decide_eq_false h,decide_eq_false e]
theorem DK(a:Int)(b:Str):decide ((Sum.inl a:iZ)=Sum.inr b)=false:=decide_eq_false (fun q=>nomatch q)
theorem DL(a:Str)(b:Int):decide ((Sum.inr a:iZ)=Sum.inl b)=false:=decide_eq_false (fun q=>nomatch q)
def eg(prog:MZ)(w:MV):PySem.KeyKind prog w iZ where
  is:=sS
  hash:=IH w
  inj:=fun v a b ha hb=>by
    rcases bJ ha with ⟨i,t,rfl,rfl⟩ | ⟨x,t,rfl,rfl⟩
    · rcases bJ hb with ⟨j,u,rfl,e⟩ | ⟨y,u,rfl,e⟩
      · injection e with e1 _;rw [e1]
      · exact nomatch e
    · rcases bJ hb with ⟨j,u,rfl,e⟩ | ⟨y,u,rfl,e⟩
      · exact nomatch e
      · injection e with e1 _;rw [e1]
  byValue:=fun k v h=>by
    rcases bJ h with ⟨i,t,rfl,rfl⟩ | ⟨x,t,rfl,rfl⟩<;>rfl
  pyHash:=fun hv h=>by
    rcases bJ hv with ⟨i,t,rfl,rfl⟩ | ⟨x,t,rfl,rfl⟩
    · exact wpAny_pyHash_int h
    · exact wpAny_pyHash_str h
  eqBool:=fun hu hv h=>by
    rcases bJ hu with ⟨i,t,rfl,rfl⟩ | ⟨x,t,rfl,rfl⟩
    · rcases bJ hv with ⟨j,u,rfl,rfl⟩ | ⟨y,u,rfl,rfl⟩
      · rw [DH] at h;exact wpAny_eqBool_int h
      · rw [DK] at h;exact SeqAt.EqAt.int_str i t y u _ _ _ _ h
    · rcases bJ hv with ⟨j,u,rfl,rfl⟩ | ⟨y,u,rfl,rfl⟩
      · rw [DL] at h;exact SeqAt.EqAt.str_int x t j u _ _ _ _ h
      · rw [DM] at h;exact wpAny_eqBool_str h
  «strs»:=fun k x t v h=>by
    rcases bJ h with ⟨i,u,rfl,e⟩ | ⟨y,u,rfl,e⟩
    · exact nomatch e
    · injection e with e1 _
      subst e1
      cases v<;>rfl
inductive V where
  | non | bl (b:Bool) | int (i:Int) | str (x:Str) | byt (b:Array UInt8) | flt (b:UInt64) | ref (a:xM) | ty (n:String)
  deriving DecidableEq
def bF:V→Kg→Prop
  | .non,u=>u=Value.none
  | .bl b,u=>u=Value.bool b
  | .int i,u=>∃t,u=Value.int i t
  | .str x,u=>∃t,u=Value.str x t
  | .byt b,u=>∃t,u=Value.bytes b t
  | .flt b,u=>∃t,u=Value.float b t
  | .ref a,u=>u=Value.ref a
  | .ty n,u=>u=Value.type n
abbrev aP:List V→List Kg→Prop:=Paired bF
theorem aP.length{xs:List V}{us:List Kg}(r:aP xs us):xs.length=us.length:=Paired.length r
theorem aP.get:∀{xs:List V} {us:List Kg} {i:Nat} {x:V},aP xs us→xs[i]?=some x→∃u,us[i]?=some u∧bF x u
  | _,_,_,_,.nil,e=>by simp at e
  | _,_,0,_,.cons r _,e=>by simp at e;subst e;exact⟨_,rfl,r⟩
  | _,_,i+1,x,.cons _ t,e=>by
    obtain⟨u,h1,h2⟩:=aP.get (i:=i) (x:=x) t (by simpa using e)
    exact⟨u,by simpa using h1,h2⟩
theorem aP.append:∀{xs ys:List V} {us ws:List Kg},aP xs us→aP ys ws→aP (xs++ys) (us++ws)
  | _,_,_,_,.nil,s=>s
  | _,_,_,_,.cons r t,s=>.cons r (aP.append t s)
theorem aP.take:∀{xs:List V} {us:List Kg} (n:Nat),aP xs us→aP (xs.take n) (us.take n)
  | _,_,0,_=>.nil
  | _,_,_+1,.nil=>.nil
  | _,_,n+1,.cons r t=>.cons r (aP.take n t)
theorem aP.drop:∀{xs:List V} {us:List Kg} (n:Nat),aP xs us→aP (xs.drop n) (us.drop n)
  | _,_,0,r=>r
  | _,_,_+1,.nil=>.nil
  | _,_,n+1,.cons _ t=>aP.drop n t
def pk:Option V→Option Kg→Prop
  | some v,some u=>bF v u
  | none,none=>True
  | _,_=>False
def KV{κ:Type}:List (κ × V)→List (κ × Kg)→Prop:=Paired fun(p:κ × V) (q:κ × Kg)=>p.1=q.1∧bF p.2 q.2
def kV:iZ→V
  | .inl i=>.int i
  | .inr x=>.str x
inductive HO where
  /-- a list -/
  | lst (xs:List V)
  /-- a tuple (never changes) -/
  | tup (xs:List V)
  /-- a dict whose keys are ints and texts; one whose keys are tuples of ints and texts (the empty one is both) -/
  | dK (kvs:List (iZ × V)) | dT (kvs:List (List iZ × V))
  /-- a set of ints: its members, its size -/
  | set (S:Int→Bool) (n:Nat)
  /-- an instance of the class at C, its dict at dx, its attributes -/
  | ins (C dx:xM) (fs:List (Str × V))
  /-- the dict of the instance at x -/
  | own (x:xM)
  /-- the dict of an exception -/
  | xd (fs:List (Str × V))
  /-- a bound method, f of x -/
  | met (f x:xM)
  /-- a range object lo, lo + 1, .. below hi -/
  | rng (lo hi:Int)
  /-- a thing that is known to the object (the script; a dict while a loop walks it): read, never written while it is so -/
  | frz (o:Obj) (u:HO)
  /-- a code object's table -/
  | tbl (ps:Array Kg)
  /-- any other thing, by what is true of its one object (a def of one's own: SetO a S n := HO.ext fun h => ..) -/
  | ext (φ:MY→Prop)
abbrev Hp:=xM→Option HO
def bv(H:Hp)(a:xM)(o:HO):Hp:=fun b=>if b=a then some o else H b
theorem aq{H:Hp}{a:xM}{o:HO}:bv H a o a=some o:=by unfold bv;rw [if_pos rfl]
theorem ar{H:Hp}{a b:xM}{o:HO}(h:b≠a):bv H a o b=H b:=by unfold bv;rw [if_neg h]
theorem dZ{H:Hp}{a b:xM}{o:HO}(h:H a=some o)(h':H b=none):a≠b:=by
  intro e;subst e;rw [h] at h';cases h'
def qB(h:MY)(a:xM)(items:Array Kg):Prop:=∃o,h.get? a=some o∧o.cls=.type "tuple"∧∃n,o.data=.seq items n∧o.dict=none
theorem qB.tup{h:MY}{a:xM}{items:Array Kg}(x:qB h a items):IsTup h a items:=let ⟨o,ho,hc,n,hd,_⟩:=x;⟨o,ho,hc,n,hd⟩
theorem qB.new(h:MY)(items:Array Kg):qB (h.push {cls:=.type "tuple",data:=.seq items}) h.objs.size items:=⟨_,Oa _ rfl,rfl,_,rfl,rfl⟩
section
variable(P:MZ)(w:MV)
def eM(H:Hp)(h:MY)(a:xM):HO→Prop
  | .lst xs=>xs.length≤Nl∧∃(its:List Kg) (n:Nat),aP xs its∧h.get? a=some {cls:=.type "list",data:=.seq its.toArray n}
  | .tup xs=>xs.length≤Nl∧∃its:List Kg,aP xs its∧qB h a its.toArray
  | .dK kvs=>kvs.length≤Nl∧(a==sysModules)=false∧∃vs,KV kvs vs∧h.DictOf (eg P w) a vs
  | .dT kvs=>kvs.length≤Nl∧(a==sysModules)=false∧∃xs:List (List iZ × xM × Kg),
      Paired (fun(p:List iZ × V) (q:List iZ × xM × Kg)=>p.1=q.1∧H q.2.1=some (.tup (p.1.map kV))∧bF p.2 q.2.2) kvs xs∧
      ∃o es ep,h.get? a=some o∧o.ExactDict∧o.data=.dict es ep∧es.toList=xs.map (entryOfKey (tupleKind (eg P w)))∧(xs.map (·.1)).Nodup
  | .set S n=>h.SetOf (intKind P w) a S n
  | .ins C dx fs=>H dx=some (.own a)∧fs.length≤1000∧dx≠a∧h.get? a=some (OW C dx)∧
      ∃mA,h.Ns1 dx mA∧(∀f,pk (fs.lookup f) (mA f))∧PySem.Within mA (fs.map (·.1))
  | .own _=>∃o,h.get? a=some o
  | .xd fs=>∃mA,h.Ns1 a mA∧∀f,pk (fs.lookup f) (mA f)
  | .rng lo hi=>∃t u v,h.get? a=some {cls:=.type "range",data:=.fields #[.int lo t,.int hi u,.int 1 v]}
  | .frz o u=>h.get? a=some o∧eM H h a u
  | .tbl ps=>h.get? a=some {cls:=.none,data:=.fields ps}
  | .met f x=>h.get? a=some (QC (.ref f) (.ref x))
  | .ext φ=>φ h∧(∃o,h.get? a=some o)∧∀h1 h2:MY,φ h1→(∀o,h1.get? a=some o→h2.get? a=some o)→φ h2
def mF(H:Hp)(h:MY):Prop:=∀a o,H a=some o→eM P w H h a o
end
section
variable{P:MZ}{w:MV}{H H':Hp}{h h':MY}{a:xM}{o:HO}
theorem eM.lt(x:eM P w H h a o):a < h.objs.size:=by
  cases o with
  | lst xs=>obtain⟨_,_,_,_,e⟩:=x;exact Nt e
  | tup xs=>obtain⟨_,_,_,p⟩:=x;exact p.tup.lt
  | dK kvs=>obtain⟨_,_,_,_,o,_,_,e,_⟩:=x;exact Nt e
  | dT kvs=>obtain⟨_,_,_,_,o,_,_,e,_⟩:=x;exact Nt e
  | set S n=>obtain⟨o,_,_,_,e,_⟩:=x;exact Nt e
  | ins C dx fs=>obtain⟨_,_,_,e,_⟩:=x;exact Nt e
  | own y=>obtain⟨_,e⟩:=x;exact Nt e
  | xd fs=>obtain⟨_,⟨_,_,_,e,_⟩,_⟩:=x;exact Nt e
  | rng lo hi=>obtain⟨_,_,_,e⟩:=x;exact Nt e
  | frz ob u=>obtain⟨e,_⟩:=x;exact Nt e
  | tbl ps=>exact Nt (show h.get? a=some _ from x)
  | met f y=>exact Nt (show h.get? a=some _ from x)
  | ext φ=>obtain⟨_,⟨_,e⟩,_⟩:=x;exact Nt e
theorem Paired.mapP{α β:Type}{F G:α→β→Prop}:∀{l₁:List α} {l₂:List β},Paired F l₁ l₂→(∀a b,F a b→G a b)→Paired G l₁ l₂
  | _,_,.nil,_=>.nil
  | _,_,.cons r t,f=>.cons (f _ _ r) (Paired.mapP t f)
theorem eM.stay(x:eM P w H h a o)(k:∀b u,(b=a∨H b=some (.own a))→h.get? b=some u→h'.get? b=some u)
    (ho:∀b,H b=some (.own a)→H' b=some (.own a))(ht:∀b xs,H b=some (.tup xs)→H' b=some (.tup xs)):eM P w H' h' a o:=by
  induction o with
  | lst xs=>obtain⟨z,its,n,r,e⟩:=x;exact⟨z,its,n,r,k _ _ (.inl rfl) e⟩
  | tup xs=>obtain⟨z,its,r,ob,e,c⟩:=x;exact⟨z,its,r,ob,k _ _ (.inl rfl) e,c⟩
  | dK kvs=>obtain⟨z,y,vs,r,ob,es,ep,e,c⟩:=x;exact⟨z,y,vs,r,ob,es,ep,k _ _ (.inl rfl) e,c⟩
  | dT kvs=>
    obtain⟨z,y,xs,r,ob,es,ep,e,c⟩:=x
    exact⟨z,y,xs,Paired.mapP r fun p q z=>⟨z.1,ht _ _ z.2.1,z.2.2⟩,ob,es,ep,k _ _ (.inl rfl) e,c⟩
  | set S n=>obtain⟨ob,es,ep,t,e,c⟩:=x;exact⟨ob,es,ep,t,k _ _ (.inl rfl) e,c⟩
  | ins C dx fs=>
    obtain⟨d,z,ne,e,mA,⟨od,es,ep,e2,c⟩,r⟩:=x
    exact⟨ho _ d,z,ne,k _ _ (.inl rfl) e,mA,⟨od,es,ep,k _ _ (.inr d) e2,c⟩,r⟩
  | own y=>obtain⟨ob,e⟩:=x;exact⟨ob,k _ _ (.inl rfl) e⟩
  | xd fs=>obtain⟨mA,⟨od,es,ep,e,c⟩,r⟩:=x;exact⟨mA,⟨od,es,ep,k _ _ (.inl rfl) e,c⟩,r⟩
  | rng lo hi=>obtain⟨t,u,v,e⟩:=x;exact⟨t,u,v,k _ _ (.inl rfl) e⟩
  | frz ob u ih=>obtain⟨e,q⟩:=x;exact⟨k _ _ (.inl rfl) e,ih q⟩
  | tbl ps=>
    have e:h.get? a=some {cls:=.none,data:=.fields ps}:=x
    show h'.get? a=some {cls:=.none,data:=.fields ps}
    exact k a _ (.inl rfl) e
  | met f y=>
    have e:h.get? a=some (QC (.ref f) (.ref y)):=x
    show h'.get? a=some (QC (.ref f) (.ref y))
    exact k a _ (.inl rfl) e
  | ext φ=>obtain⟨p,⟨o,e⟩,st⟩:=x;exact⟨st _ _ p fun o q=>k _ _ (.inl rfl) q,⟨o,k _ _ (.inl rfl) e⟩,st⟩
theorem mF.lt(x:mF P w H h)(e:H a=some o):a < h.objs.size:=(x a o e).lt
theorem mF.fresh(x:mF P w H h)(e:h.objs.size≤a):H a=none:=by
  cases q:H a with
  | none=>rfl
  | some u=>exact absurd (NS (x.lt q) e) (OS _)
theorem mF.kept(x:mF P w H h)(k:∀b u,h.get? b=some u→h'.get? b=some u):mF P w H h':=fun a o e=>
  (x a o e).stay (fun b u _ q=>k b u q) (fun _ q=>q) fun _ _ q=>q
theorem mF.laid(x:mF P w H h)(k:∀b u,h.get? b=some u→h'.get? b=some u)(hp:h.objs.size≤a)(new:eM P w (bv H a o) h' a o):mF P w (bv H a o) h':=fun b u e=>by
  have hn:=x.fresh hp
  by_cases hb:b=a
  · subst hb;rw [aq] at e;cases e;exact new
  · rw [ar hb] at e
    exact(x b u e).stay (fun c v _ q=>k c v q) (fun c q=>by rw [ar (dZ q hn)];exact q) fun c xs q=>by rw [ar (dZ q hn)];exact q
end
def Rd(H:Hp)(a:xM)(u:HO):Prop:=H a=some u∨∃o,H a=some (.frz o u)
theorem Rd.ok{P:MZ}{w:MV}{H:Hp}{h:MY}{a:xM}{u:HO}(r:Rd H a u)(x:mF P w H h):eM P w H h a u:=by
  rcases r with r | ⟨o,r⟩
  · exact x a u r
  · obtain⟨_,q⟩:=x a _ r
    exact q
def HG:Option HO→Prop
  | some (.lst _)=>True
  | some (.dK _)=>True
  | some (.dT _)=>True
  | some (.set _ _)=>True
  | some (.ins _ _ _)=>True
  | some (.ext _)=>True
  | _=>False
section
variable{P:MZ}{w:MV}{H:Hp}{h h':MY}{x e:xM}{o':HO}
theorem mF.write(ok:mF P w H h)(mu:HG (H x))(he:e=x∨H e=some (.own x))(k:∀b u,b≠e→h.get? b=some u→h'.get? b=some u)(heo:∃u,h'.get? e=some u)
    (new:eM P w (bv H x o') h' x o'):mF P w (bv H x o') h':=fun b u q=>by
  have nown:∀c y,H c=some (.own y)→c≠x:=fun c y r z=>by subst z;rw [r] at mu;exact mu
  have ntup:∀c xs,H c=some (.tup xs)→c≠x:=fun c xs r z=>by subst z;rw [r] at mu;exact mu
  by_cases hb:b=x
  · subst hb;rw [aq] at q;cases q;exact new
  · rw [ar hb] at q
    by_cases hbe:b=e
    · have q':H b=some (.own x):=by
        rcases he with z | z
        · exact absurd (hbe.trans z) hb
        · rw [hbe];exact z
      rw [q] at q';cases q'
      obtain⟨v,hv⟩:=heo
      exact⟨v,by rw [hbe];exact hv⟩
    · refine(ok b u q).stay (fun c v hc r=>k c v ?_ r) (fun c r=>by rw [ar (nown c b r)];exact r) fun c xs r=>by rw [ar (ntup c xs r)];exact r
      rcases hc with rfl | hc
      · exact hbe
      · rintro rfl
        rcases he with z | z
        · exact nown c b hc z
        · rw [hc] at z;cases z;exact hb rfl
end
structure Un (fs ex:List xM) (H H':Hp) (h h':MY):Prop where
  keep:∀b o,h.get? b=some o→H b=none→b∉fs→b∉ex→h'.get? b=some o
  slot:∀b o,h.get? b=some o→H b=none→b∈fs→b∉ex→∃sl,h'.get? b=some {o with slots:=sl}
  free:∀b o,h.get? b=some o→H b=none→b∉ex→H' b=none
  there:∀b o,h.get? b=some o→b∉ex→∃o',h'.get? b=some o'
  tups:∀b xs,H b=some (.tup xs)→H' b=some (.tup xs)
  frzs:∀b o u,H b=some (.frz o u)→H' b=some (.frz o u)
  tbls:∀b ps,H b=some (.tbl ps)→∃more,H' b=some (.tbl (ps++more))
section
variable{fs fs' ex ex':List xM}{H H1 H2:Hp}{h h1 h2 h':MY}{a x e:xM}{o:HO}
theorem Un.any(u:Un fs ex H H1 h h1){b:xM}{ob:Obj}(q:h.get? b=some ob)(n:H b=none)(hx:b∉ex):∃sl,h1.get? b=some {ob with slots:=sl}:=by
  by_cases hb:b∈fs
  · exact u.slot b ob q n hb hx
  · exact⟨ob.slots,u.keep b ob q n hb hx⟩
theorem Un.kept(k:∀b u,h.get? b=some u→h'.get? b=some u):Un fs ex H H h h':=
  ⟨fun b ob q _ _ _=>k b ob q,fun b ob q _ _ _=>⟨ob.slots,k b ob q⟩,fun _ _ _ n _=>n,fun b ob q _=>⟨ob,k b ob q⟩,fun _ _ q=>q,fun _ _ _ q=>q,fun _ ps q=>⟨#[],by rw [q];simp⟩⟩
theorem Un.refl:Un fs ex H H h h:=Un.kept fun _ _ q=>q
theorem Un.laid(k:∀b u,h.get? b=some u→h'.get? b=some u)(hp:h.objs.size≤a)(hn:H a=none):Un fs ex H (bv H a o) h h' where
  keep:=fun b u q _ _ _=>k b u q
  slot:=fun b u q _ _ _=>⟨u.slots,k b u q⟩
  free:=fun b u q n _=>by rw [ar (Oc (NS (Nt q) hp))];exact n
  there:=fun b u q _=>⟨u,k b u q⟩
  tups:=fun b xs q=>by rw [ar (dZ q hn)];exact q
  frzs:=fun b u xs q=>by rw [ar (dZ q hn)];exact q
  tbls:=fun b ps q=>⟨#[],by rw [ar (dZ q hn),q];simp⟩
theorem Un.write(mu:HG (H x))(he:e=x∨H e=some (.own x))(k:∀b u,b≠e→h.get? b=some u→h'.get? b=some u)(heo:∃u,h'.get? e=some u):Un fs ex H (bv H x o) h h':=by
  have hx:∀b,H b=none→b≠x:=fun b n z=>by subst z;rw [n] at mu;exact mu
  have hb:∀b,H b=none→b≠e:=fun b n z=>by
    subst z
    rcases he with r | r
    · exact hx b n r
    · rw [n] at r;cases r
  have hm:∀b u,H b=some u→¬HG (some u)→b≠x:=fun b u q nm z=>by subst z;rw [q] at mu;exact nm mu
  refine⟨fun b u q n _ _=>k b u (hb b n) q,fun b u q n _ _=>⟨u.slots,k b u (hb b n) q⟩,fun b u q n _=>by rw [ar (hx b n)];exact n,fun b u q _=>?_,
    fun b xs q=>by rw [ar (hm b _ q fun z=>z)];exact q,fun b u xs q=>by rw [ar (hm b _ q fun z=>z)];exact q,fun b ps q=>⟨#[],by rw [ar (hm b _ q fun z=>z),q];simp⟩⟩
  by_cases hbe:b=e
  · subst hbe;exact heo
  · exact⟨u,k b u hbe q⟩
end
def HV(h:MY)(H:Hp):List xM:=(OX h.objs.size).filter fun a=>(H a).isSome
def qT(h:MY)(H:Hp):MY:=PySem.W.hideAll h (HV h H)
theorem xf(h:MY)(H:Hp):(qT h H).objs.size=h.objs.size:=PySem.W.hideAll_size _ _
theorem yz{h:MY}{H:Hp}{b:xM}{o:Obj}(e:h.get? b=some o)(n:H b=none):(qT h H).get? b=some o:=
  PySem.W.hideAll_get _ e fun hm=>by
    have q:(H b).isSome=true:=(Ph.mp hm).2
    rw [n] at q;simp at q
theorem Bp{h:MY}{H:Hp}{b:xM}{o:Obj}(e:(qT h H).get? b=some o):h.get? b=some o∧H b=none:=by
  have e':h.get? b=some o:=PySem.W.of_hideAll (HV h H) e
  refine⟨e',?_⟩
  cases q:H b with
  | none=>rfl
  | some x=>
    have hm:b∈HV h H:=Ph.mpr ⟨PL.mpr (Nt e'),by simp [q]⟩
    have z:(qT h H).get? b=none:=PySem.W.hideAll_none (HV h H) hm
    rw [z] at e;cases e
def qD(g h:MY)(L:xM):List (xM × Obj):=(OX h.objs.size).filterMap fun a=>if a=L∨(g.get? a).isSome=true then none else(h.get? a).map fun o=>(a,o)
theorem om{g h:MY}{L:xM}{p:xM × Obj}(hp:p∈qD g h L):p.1≠L∧g.get? p.1=none∧h.get? p.1=some p.2:=by
  obtain⟨b,_,e⟩:=QD.mp hp
  split at e
  · cases e
  · rename_i hn
    cases q:h.get? b with
    | none=>rw [q] at e;simp at e
    | some u=>
      rw [q] at e
      simp only [NZ,Pf] at e
      subst e
      refine⟨fun z=>hn (.inl z),?_,q⟩
      show g.get? b=none
      cases r:g.get? b with
      | none=>rfl
      | some v=>exact(hn (.inr (by simp [r]))).elim
def cf(g h:MY)(L d:xM):List (xM × Obj):=(qD g h L).filter fun p=>decide (p.1≠d)
theorem yU{g h:MY}{L:xM}:News g L h (qD g h L):=fun p hp=>let ⟨a,b,c⟩:=om hp;⟨c,a,b⟩
structure Mod (K:MS) (mg:Str→Option Kg) (base:MY):Prop where
  kin:K.In base
  glob:base.Ns NA mg
  blt:∃mb,base.Ns builtinsNs mb∧∀x:Str,x≠"__name__"→mb x=OA x
  nolimit:base.NoLimit
structure Cx where
  prog:MZ
  w:MV
  K:MS
  mg:Str→Option Kg
  base:MY
  A:Nb
  N:List Str
  s₀:MP
  H₀:Hp
  env:Env
  outer:List Env
  stack:List Env
  ex:List xM
  fn:Str→Bool
  calm:Bool
  pn:List (xM × Obj)
  xe:Kg→MP→Prop
def yk(l:List Env):List xM:=l.filterMap (·.frame)
abbrev Cx.fs(X:Cx):List xM:=yk X.outer
def FU(sc:Nz)(x:Str):Prop:=sc.names.lookup x=some .local∨sc.names.lookup x=some .cell∨sc.names.lookup x=some .free
def xT(sc:Nz)(x:Str):Prop:=sc.names.lookup x=some .local∨sc.names.lookup x=some .cell
def Ic(env:Env)(h:MY)(m:Str→Option Kg)(x:Str)(u:Kg):Prop:=
  (env.kindOf x=some .local∧m x=some u)∨((env.kindOf x=some .cell∨env.kindOf x=some .free)∧∃c,env.cells.lookup x=some c∧h.IsCell c (some u))
structure Cx.Ok (X:Cx):Prop where
  mod:Mod X.K X.mg X.base
  kind:X.env.scope.kind=.function
  glob:X.env.globals=NA
  blt:X.env.builtins=builtinsNs
  above:X.s₀.heap.objs.size≤X.env.locals
  inj:∀x y c,X.env.cells.lookup x=some c→X.env.cells.lookup y=some c→x=y
  has:∀x,(X.env.kindOf x=some .cell∨X.env.kindOf x=some .free)→∃c,X.env.cells.lookup x=some c
  cab:∀x c,X.fn x=true→X.env.cells.lookup x=some c→X.s₀.heap.objs.size≤c
  hd:X.calm=true→X.A.handled=none
  frames:X.A.frames=some X.stack
  stk:X.stack=X.outer∨(X.stack=X.env::X.outer∧X.env.frame=some X.env.locals)
  exf:∀b∈X.ex,b≠X.env.locals∧∀x c,X.env.cells.lookup x=some c→c≠b
  bs:∀b o,X.base.get? b=some o→X.s₀.heap.get? b=some o∧X.H₀ b=none
  bsz:X.base.objs.size≤X.s₀.heap.objs.size
  noex:∀b o,X.base.get? b=some o→b∉X.ex
  exfs:∀b∈X.ex,b∉X.fs
  funs:X.s₀.heap.FunFrames X.base X.outer
  frf:∀b∈X.fs,X.H₀ b=none
structure aC (X:Cx) (pins:List (xM × Obj)) (σ:List (Option V)) (H:Hp) (s:MP):Prop where
  ok:X.Ok
  os:s.os=X.s₀.os
  bare:AllBare s.gens
  base:Un X.fs X.ex X.H₀ H X.s₀.heap s.heap
  loc:∃m,s.heap.Ns X.env.locals m∧∀(i:Nat) (x:Str) (v:V),X.N[i]?=some x→σ[i]?=some (some v)→FU X.env.scope x→∃u,bF v u∧Ic X.env s.heap m x u
  cell:∀x c,X.env.cells.lookup x=some c→∃v,s.heap.IsCell c v
  free:H X.env.locals=none
  freeC:∀x c,X.env.cells.lookup x=some c→H c=none
  pin:∀p∈X.pn++pins,s.heap.get? p.1=some p.2∧H p.1=none∧p.1≠X.env.locals∧p.1∉X.fs∧∀v,p.2.data≠.cell v
  hok:mF X.prog X.w H s.heap
  len:σ.length=X.N.length
section
variable{X:Cx}{pins:List (xM × Obj)}{σ:List (Option V)}{H H':Hp}{s:MP}{h':MY}
theorem Cx.Ok.nofr(ok:X.Ok){b:xM}{o:Obj}(e:X.base.get? b=some o):b∉X.fs:=fun hb=>by
  have:=(ok.funs.mem hb).1
  rw [e] at this;cases this
theorem aC.bs(I:aC X pins σ H s):∀b o,X.base.get? b=some o→s.heap.get? b=some o∧H b=none:=fun b o e=>
  ⟨I.base.keep b o (I.ok.bs b o e).1 (I.ok.bs b o e).2 (I.ok.nofr e) (I.ok.noex b o e),I.base.free b o (I.ok.bs b o e).1 (I.ok.bs b o e).2 (I.ok.noex b o e)⟩
theorem aC.bk(I:aC X pins σ H s):∀b o,X.base.get? b=some o→s.heap.get? b=some o:=fun b o e=>(I.bs b o e).1
theorem aC.mod(I:aC X pins σ H s):Mod X.K X.mg X.base:=I.ok.mod
theorem aC.kIn(I:aC X pins σ H s):X.K.In s.heap:=I.ok.mod.kin.keeps I.bk
theorem aC.fr(I:aC X pins σ H s):∃m,Fr X.base X.env.locals s.heap m:=
  let ⟨m,hn,_⟩:=I.loc
  ⟨m,hn,I.bk,NG I.ok.bsz I.ok.above⟩
theorem aC.lt(I:aC X pins σ H s):X.env.locals < s.heap.objs.size:=let ⟨_,hn,_⟩:=I.loc;hn.lt
theorem aC.sz(I:aC X pins σ H s):X.s₀.heap.objs.size≤s.heap.objs.size:=NG I.ok.above (Pi I.lt)
theorem aC.nofs(I:aC X pins σ H s){a:xM}(h:s.heap.objs.size≤a):a∉X.fs:=fun hb=>by
  obtain⟨_,o,ho,_⟩:=I.ok.funs.mem hb
  exact absurd (NS (Nt ho) (NG I.sz h)) (OS _)
theorem aC.cne(I:aC X pins σ H s):∀x c,X.env.cells.lookup x=some c→c≠X.env.locals:=fun x c e z=>by
  obtain⟨v,o,ho,hd⟩:=I.cell x c e
  obtain⟨m,⟨o',es,ep,ho',hd',_⟩,_⟩:=I.loc
  rw [z,ho'] at ho;cases ho;rw [hd'] at hd;cases hd
theorem aC.funs(I:aC X pins σ H s):s.heap.FunFrames X.base X.outer:=by
  have all:∀(l:List Env),(∀b∈yk l,b∈X.fs)→X.s₀.heap.FunFrames X.base l→s.heap.FunFrames X.base l:=by
    intro l
    induction l with
    | nil=>intro _ _;trivial
    | cons env r ih=>
      intro hs hl
      obtain⟨hk,⟨L,o,hf,hn,ho,hd⟩,hr⟩:=hl
      have hL:L∈X.fs:=hs L (by unfold yk;rw [QE,hf];exact OL)
      obtain⟨sl,e⟩:=I.base.slot L o ho (I.ok.frf L hL) hL fun z=>I.ok.exfs L z hL
      exact⟨hk,⟨L,_,hf,hn,e,hd⟩,ih (fun b hb=>hs b (by unfold yk;rw [QE,hf];exact Om _ hb)) hr⟩
  exact all X.outer (fun _ hb=>hb) I.ok.funs
theorem aC.stack(I:aC X pins σ H s):s.heap.FunFrames X.base X.stack:=by
  rcases I.ok.stk with e | ⟨e,hf⟩
  · rw [e];exact I.funs
  · rw [e]
    obtain⟨m,hn,_⟩:=I.loc
    refine .cons (by rw [I.ok.kind];decide) hf hn ?_ I.funs
    exact Heap.get?_none_of_le (NG I.ok.bsz I.ok.above)
theorem aC.stkSub(I:aC X pins σ H s):∀b∈yk X.stack,b∈X.env.locals::X.fs:=fun b hb=>by
  rcases I.ok.stk with e | ⟨e,hf⟩
  · rw [e] at hb;exact Om _ hb
  · rw [e] at hb
    unfold yk at hb
    rw [QE,hf] at hb
    exact hb
theorem aC.stkFree(I:aC X pins σ H s):∀b∈yk X.stack,H b=none:=fun b hb=>by
  rcases MQ (I.stkSub b hb) with e | hb
  · rw [e];exact I.free
  · obtain⟨_,o,ho,_⟩:=I.ok.funs.mem hb
    exact I.base.free b o ho (I.ok.frf b hb) fun z=>I.ok.exfs b z hb
theorem aC.step{g':Array GenState}{t':Nat}{d':Drawn}{ch:List xM}(I:aC X pins σ H s)
    (hch:∀b∈ch,(b∈X.ex∨X.s₀.heap.objs.size≤b)∧b≠X.env.locals∧(∀x c,X.env.cells.lookup x=some c→c≠b)∧∀p∈X.pn++pins,p.1≠b)
    (keep:∀b o,b≠X.env.locals→b∉X.fs→b∉ch→s.heap.get? b=some o→H b=none→h'.get? b=some o)
    (slot:∀b o,b≠X.env.locals→b∈X.fs→b∉ch→s.heap.get? b=some o→H b=none→∃sl,h'.get? b=some {o with slots:=sl})(free:∀b o,b∉ch→s.heap.get? b=some o→H b=none→H' b=none)
    (there:∀b o,b∉ch→s.heap.get? b=some o→∃o',h'.get? b=some o')
    (tups:∀b xs,H b=some (.tup xs)→H' b=some (.tup xs))(frzs:∀b o u,H b=some (.frz o u)→H' b=some (.frz o u))(tbls:∀b ps,H b=some (.tbl ps)→∃more,H' b=some (.tbl (ps++more)))
    (ns:∀m,s.heap.Ns X.env.locals m→h'.Ns X.env.locals m)(hok:mF X.prog X.w H' h')(hg:AllBare g'):
    aC X pins σ H' {s with heap:=h',gens:=g',drawn:=d',toks:=t'}:=by
  have neL:∀b o,X.s₀.heap.get? b=some o→b≠X.env.locals:=fun b o e=>Oc (NS (Nt e) I.ok.above)
  have neC:∀b o,X.s₀.heap.get? b=some o→b∉X.ex→b∉ch:=fun b o e hx hb=>by
    rcases(hch b hb).1 with z | z
    · exact hx z
    · exact absurd (NS (Nt e) z) (OS _)
  have cellK:∀x c,X.env.cells.lookup x=some c→∀v,s.heap.IsCell c v→h'.IsCell c v:=fun x c e v ⟨o,ho,hd⟩=>by
    have nch:c∉ch:=fun z=>(hch c z).2.2.1 x c e rfl
    by_cases hc:c∈X.fs
    · obtain⟨sl,q⟩:=slot c o (I.cne x c e) hc nch ho (I.freeC x c e)
      exact⟨_,q,hd⟩
    · exact⟨o,keep c o (I.cne x c e) hc nch ho (I.freeC x c e),hd⟩
  refine⟨I.ok,I.os,hg,⟨fun b o e n hb hx=>?_,fun b o e n hb hx=>?_,fun b o e n hx=>?_,fun b o e hx=>?_,fun b xs e=>tups b xs (I.base.tups b xs e),fun b o xs e=>frzs b o xs (I.base.frzs b o xs e),fun b ps e=>?_⟩,?_,fun x c e=>?_,?_,fun x c e=>?_,fun p hp=>?_,hok,I.len⟩
  · exact keep b o (neL b o e) hb (neC b o e hx) (I.base.keep b o e n hb hx) (I.base.free b o e n hx)
  · obtain⟨sl,e1⟩:=I.base.slot b o e n hb hx
    obtain⟨sl',e2⟩:=slot b _ (neL b o e) hb (neC b o e hx) e1 (I.base.free b o e n hx)
    exact⟨sl',e2⟩
  · obtain⟨o',e1⟩:=I.base.there b o e hx
    exact free b o' (neC b o e hx) e1 (I.base.free b o e n hx)
  · obtain⟨o',e1⟩:=I.base.there b o e hx
    exact there b o' (neC b o e hx) e1
  · obtain⟨m1,e1⟩:=I.base.tbls b ps e
    obtain⟨m2,e2⟩:=tbls b _ e1
    exact⟨m1++m2,by rw [e2,Array.append_assoc]⟩
  · obtain⟨m,hn,hl⟩:=I.loc
    refine⟨m,ns m hn,fun i x v e1 e2 e3=>?_⟩
    obtain⟨u,r,l⟩:=hl i x v e1 e2 e3
    refine⟨u,r,?_⟩
    rcases l with l | ⟨k,c,e,z⟩
    · exact .inl l
    · exact .inr ⟨k,c,e,cellK x c e _ z⟩
  · obtain⟨v,z⟩:=I.cell x c e
    exact⟨v,cellK x c e v z⟩
  · obtain⟨m,⟨o,_,_,ho,_⟩,_⟩:=I.loc
    exact free _ o (fun z=>(hch _ z).2.1 rfl) ho I.free
  · obtain⟨v,o,ho,hd⟩:=I.cell x c e
    exact free c o (fun z=>(hch c z).2.2.1 x c e rfl) ho (I.freeC x c e)
  · obtain⟨e,n,ne,nf,d⟩:=I.pin p hp
    have nch:p.1∉ch:=fun z=>(hch p.1 z).2.2.2 p hp rfl
    exact⟨keep p.1 p.2 ne nf nch e n,free p.1 p.2 nch e n,ne,nf,d⟩
theorem aC.un{t':Nat}(I:aC X pins σ H s)(u:Un X.fs [] H H' s.heap h')(hok:mF X.prog X.w H' h'):aC X pins σ H' {s with heap:=h',toks:=t'}:=by
  obtain⟨m,⟨o,es,ep,ho,r⟩,_⟩:=id I.loc
  obtain⟨sl,hL⟩:=u.any ho I.free (by simp)
  exact I.step (g':=s.gens) (d':=s.drawn) (ch:=[]) (fun _ z=>nomatch z) (fun b o _ hb _ e n=>u.keep b o e n hb (by simp)) (fun b o _ hb _ e n=>u.slot b o e n hb (by simp)) (fun b o _ e n=>u.free b o e n (by simp)) (fun b o _ e=>u.there b o e (by simp)) u.tups u.frzs u.tbls (fun m' hm=>by
    obtain⟨o',es',ep',ho',r'⟩:=hm
    rw [ho] at ho';cases ho'
    exact⟨_,es',ep',hL,r'⟩) hok I.bare
theorem aC.call{g':Array GenState}{t':Nat}{d':Drawn}{ch:List xM}(I:aC X pins σ H s)(u:Un (yk X.stack) ch H H' s.heap h')(hok:mF X.prog X.w H' h')(hg:AllBare g')
    (hch:∀b∈ch,(b∈X.ex∨X.s₀.heap.objs.size≤b)∧b≠X.env.locals∧(∀x c,X.env.cells.lookup x=some c→c≠b)∧∀p∈X.pn++pins,p.1≠b):
    aC X pins σ H' {s with heap:=h',gens:=g',drawn:=d',toks:=t'}:=by
  obtain⟨m,⟨o,es,ep,ho,r⟩,_⟩:=id I.loc
  obtain⟨sl,hL⟩:=u.any ho I.free fun z=>(hch _ z).2.1 rfl
  exact I.step (ch:=ch) hch (fun b o hL hb hc e n=>u.keep b o e n (fun z=>(MQ (I.stkSub b z)).elim hL hb) hc) (fun b o _ _ hc e n=>u.any e n hc) (fun b o hc e n=>u.free b o e n hc) (fun b o hc e=>u.there b o e hc) u.tups u.frzs u.tbls (fun m' hm=>by
    obtain⟨o',es',ep',ho',r'⟩:=hm
    rw [ho] at ho';cases ho'
    exact⟨_,es',ep',hL,r'⟩) hok hg
theorem aC.turned{t':Nat}{it:xM}(I:aC X pins σ H s)(k:∀b o,b≠it→s.heap.get? b=some o→h'.get? b=some o)(hn:H it=none)(hL:it≠X.env.locals)
    (h1:it∈X.ex∨X.s₀.heap.objs.size≤it)(h2:∀x c,X.env.cells.lookup x=some c→c≠it)(h3:∀p∈X.pn++pins,p.1≠it):aC X pins σ H {s with heap:=h',toks:=t'}:=by
  have nit:∀b u,H b=some u→b≠it:=fun b u e z=>by rw [z,hn] at e;cases e
  refine I.step (g':=s.gens) (d':=s.drawn) (ch:=[it]) (fun b hb=>?_) (fun b o _ _ hc e _=>k b o (fun z=>hc (by simp [z])) e) (fun b o _ _ hc e _=>⟨o.slots,k b o (fun z=>hc (by simp [z])) e⟩) (fun _ _ _ _ n=>n)
    (fun b o hc e=>⟨o,k b o (fun z=>hc (by simp [z])) e⟩) (fun _ _ e=>e) (fun _ _ _ e=>e) (fun b ps e=>⟨#[],by rw [e];simp⟩) (fun m hm=>?_) (fun b u e=>?_) I.bare
  · have e:b=it:=by simpa using hb
    subst e
    exact⟨h1,hL,h2,h3⟩
  · obtain⟨o,es,ep,ho,r⟩:=hm
    exact⟨o,es,ep,k _ o (Ny hL) ho,r⟩
  · refine(I.hok b u e).stay (fun c v hc q=>k c v ?_ q) (fun _ q=>q) fun _ _ q=>q
    rcases hc with z | z
    · rw [z];exact nit b u e
    · exact nit c _ z
theorem aC.tok(I:aC X pins σ H s)(t:Nat):aC X pins σ H {s with toks:=t}:=I.un (h':=s.heap) (t':=t) Un.refl I.hok
theorem aC.kept{t':Nat}(I:aC X pins σ H s)(k:∀b u,s.heap.get? b=some u→h'.get? b=some u):aC X pins σ H {s with heap:=h',toks:=t'}:=I.un (Un.kept k) (I.hok.kept k)
theorem aC.laid{a:xM}{o:HO}{t':Nat}(I:aC X pins σ H s)(k:∀b u,s.heap.get? b=some u→h'.get? b=some u)(hp:s.heap.objs.size≤a)(new:eM X.prog X.w (bv H a o) h' a o):
    aC X pins σ (bv H a o) {s with heap:=h',toks:=t'}:=I.un (Un.laid k hp (I.hok.fresh hp)) (I.hok.laid k hp new)
theorem aC.write{x e:xM}{o:HO}{t':Nat}(I:aC X pins σ H s)(mu:HG (H x))(he:e=x∨H e=some (.own x))(k:∀b u,b≠e→s.heap.get? b=some u→h'.get? b=some u)(heo:∃u,h'.get? e=some u)
    (new:eM X.prog X.w (bv H x o) h' x o):aC X pins σ (bv H x o) {s with heap:=h',toks:=t'}:=I.un (Un.write mu he k heo) (I.hok.write mu he k heo new)
theorem aC.pins_of{pins':List (xM × Obj)}(I:aC X pins σ H s)(h:∀p∈pins',s.heap.get? p.1=some p.2∧H p.1=none∧p.1≠X.env.locals∧p.1∉X.fs∧∀v,p.2.data≠.cell v):aC X pins' σ H s:=
  ⟨I.ok,I.os,I.bare,I.base,I.loc,I.cell,I.free,I.freeC,fun p hp=>(MO hp).elim (fun z=>I.pin p (List.mem_append_left _ z)) (h p),I.hok,I.len⟩
theorem ti{N:List Str}(hN:N.Nodup){i j:Nat}{x:Str}(a:N[i]?=some x)(b:N[j]?=some x):i=j:=by
  obtain⟨h1,e1⟩:=MN a
  obtain⟨h2,e2⟩:=MN b
  exact(List.getElem_inj hN).mp (e1.trans e2.symm)
theorem xH{M:Model}{A:Nb}{E:Kg→MP→Prop}{i:Nat}{x:Str}{v:V}{u:Kg}{Q:Unit→MP→Prop}(I:aC X pins σ H s)(hN:X.N.Nodup)(hi:X.N[i]?=some x)(hx:xT X.env.scope x)(r:bF v u)
    (h:∀s',aC X pins (σ.set i (some v)) H s'→(∃a,Pz a s.heap s'.heap∧(a=X.env.locals∨X.env.cells.lookup x=some a))→Q () s')(hf:X.fn x=true∨X.env.scope.names.lookup x=some .local:=by first | exact .inl rfl | exact .inr rfl | assumption):Nc M A (storeName X.env x u) Q E s:=by
  obtain⟨m,hn,hl⟩:=id I.loc
  have hcls:(X.env.scope.kind==.class || (X.env.scope.kind==.module&&X.env.locals != X.env.globals))=false:=by rw [I.ok.kind];rfl
  have hiσ:i < σ.length:=by rw [I.len];exact(MN hi).1
  have cne:=I.cne
  have tracked:∀{a:xM} {h':MY},(∃o,s.heap.get? a=some o∧H a=none)→Pz a s.heap h'→mF X.prog X.w H h':=fun{a h'} ha hs b ob e=>by
    obtain⟨_,_,hfree⟩:=ha
    refine(I.hok b ob e).stay (fun c w' hc q=>(hs.2 c ?_).trans q) (fun _ q=>q) fun _ _ q=>q
    rintro rfl
    rcases hc with rfl | hc
    · rw [hfree] at e;cases e
    · rw [hfree] at hc;cases hc
  rcases hx with hk | hk
  · refine wpAny_storeName_local hk hn (fun h' hn' hs=>?_) hcls
    obtain⟨oL,_,_,hoL,_⟩:=id hn
    refine h _ ⟨I.ok,I.os,I.bare,⟨fun b o e n hb hx=>?_,fun b o e n hb hx=>?_,I.base.free,fun b o e hx=>?_,I.base.tups,I.base.frzs,I.base.tbls⟩,⟨_,hn',fun j y v' e1 e2 e3=>?_⟩,fun y c e=>?_,I.free,I.freeC,fun p hp=>?_,tracked ⟨oL,hoL,I.free⟩ hs,by simpa using I.len⟩ ⟨_,hs,.inl rfl⟩
    · exact(hs.2 b (Oc (NS (Nt e) I.ok.above))).trans (I.base.keep b o e n hb hx)
    · obtain⟨sl,e1⟩:=I.base.slot b o e n hb hx
      exact⟨sl,(hs.2 b (Oc (NS (Nt e) I.ok.above))).trans e1⟩
    · obtain⟨o',e1⟩:=I.base.there b o e hx
      exact⟨o',(hs.2 b (Oc (NS (Nt e) I.ok.above))).trans e1⟩
    · by_cases hj:j=i
      · subst hj
        rw [hi] at e1;cases e1
        rw [Od hiσ] at e2
        cases e2
        exact⟨u,r,.inl ⟨hk,by simp⟩⟩
      · rw [Nq (Ny hj)] at e2
        obtain⟨u',r',q⟩:=hl j y v' e1 e2 e3
        refine⟨u',r',?_⟩
        rcases q with ⟨k,e⟩ | ⟨k,c,e,z⟩
        · refine .inl ⟨k,?_⟩
          have:y≠x:=fun e=>hj (ti hN e1 (e ▸ hi))
          simp [this,e]
        · exact .inr ⟨k,c,e,z.sameBut hs (cne y c e)⟩
    · obtain⟨w',z⟩:=I.cell y c e
      exact⟨w',z.sameBut hs (cne y c e)⟩
    · obtain⟨e,n,ne,nf,d⟩:=I.pin p hp
      exact⟨(hs.2 p.1 ne).trans e,n,ne,nf,d⟩
  · have hfn:X.fn x=true:=by
      rcases hf with z | z
      · exact z
      · rw [z] at hk;cases hk
    obtain⟨c,hc⟩:=I.ok.has x (.inl hk)
    obtain⟨w',z⟩:=I.cell x c hc
    refine wpAny_storeName_cell I.ok.kind hk hc z (fun h' hc' hs=>?_)
    obtain⟨oc,hoc,hocd⟩:=id z
    refine h {s with heap:=h'} ⟨I.ok,I.os,I.bare,⟨fun b o e n hb hx=>?_,fun b o e n hb hx=>?_,I.base.free,fun b o e hx=>?_,I.base.tups,I.base.frzs,I.base.tbls⟩,⟨m,hn.sameBut hs (Ny (cne x c hc)),fun j y v' e1 e2 e3=>?_⟩,fun y c' e=>?_,I.free,I.freeC,fun p hp=>?_,tracked ⟨oc,hoc,I.freeC x c hc⟩ hs,by simpa using I.len⟩ ⟨c,hs,.inr hc⟩
    · exact(hs.2 b (Oc (NS (Nt e) (I.ok.cab x c hfn hc)))).trans (I.base.keep b o e n hb hx)
    · obtain⟨sl,e1⟩:=I.base.slot b o e n hb hx
      exact⟨sl,(hs.2 b (Oc (NS (Nt e) (I.ok.cab x c hfn hc)))).trans e1⟩
    · obtain⟨o',e1⟩:=I.base.there b o e hx
      exact⟨o',(hs.2 b (Oc (NS (Nt e) (I.ok.cab x c hfn hc)))).trans e1⟩
    · by_cases hj:j=i
      · subst hj
        rw [hi] at e1;cases e1
        rw [Od hiσ] at e2
        cases e2
        exact⟨u,r,.inr ⟨.inl hk,c,hc,hc'⟩⟩
      · rw [Nq (Ny hj)] at e2
        obtain⟨u',r',q⟩:=hl j y v' e1 e2 e3
        refine⟨u',r',?_⟩
        rcases q with q | ⟨k,c',e,z'⟩
        · exact .inl q
        · refine .inr ⟨k,c',e,z'.sameBut hs ?_⟩
          rintro rfl
          exact hj (ti hN e1 (I.ok.inj _ _ _ e hc ▸ hi))
    · by_cases hcc:c'=c
      · subst hcc;exact⟨_,hc'⟩
      · obtain⟨w2,z2⟩:=I.cell y c' e
        exact⟨w2,z2.sameBut hs hcc⟩
    · obtain⟨e,n,ne,nf,d⟩:=I.pin p hp
      refine⟨(hs.2 p.1 ?_).trans e,n,ne,nf,d⟩
      intro q
      rw [q,hoc] at e
      have q':oc=p.2:=Og e
      exact d w' (by rw [←q'];exact hocd)
theorem lu{M:Model}{A:Nb}{E:Kg→MP→Prop}{i:Nat}{x:Str}{v:V}{u:Kg}{Q:Unit→MP→Prop}(I:aC X pins σ H s)(hN:X.N.Nodup)(hi:X.N[i]?=some x)(hx:xT X.env.scope x)(r:bF v u)
    (h:∀s',aC X pins (σ.set i (some v)) H s'→Q () s')(hf:X.fn x=true∨X.env.scope.names.lookup x=some .local:=by first | exact .inl rfl | exact .inr rfl | assumption):Nc M A (storeName X.env x u) Q E s:=
  xH I hN hi hx r (fun s' I' _=>h s' I') hf
theorem aC.call'{s':MP}{ch:List xM}(I:aC X pins σ H s)(ho:s'.os=s.os)(u:Un (yk X.stack) ch H H' s.heap s'.heap)(hok:mF X.prog X.w H' s'.heap)(hg:AllBare s'.gens)
    (hch:∀b∈ch,(b∈X.ex∨X.s₀.heap.objs.size≤b)∧b≠X.env.locals∧(∀x c,X.env.cells.lookup x=some c→c≠b)∧∀p∈X.pn++pins,p.1≠b):aC X pins σ H' s':=by
  obtain⟨h',g',d',t',o'⟩:=s'
  have e:o'=s.os:=ho
  subst e
  exact I.call (g':=g') (t':=t') (d':=d') u hok hg hch
end
abbrev XK:=Kg→Option xM→Hp→Prop
abbrev St:=List (Option V)
abbrev VK:=V→Hp→Prop
abbrev TE:=St→Hp→VK→Prop
abbrev TT:=St→Hp→(Bool→Hp→Prop)→Prop
abbrev TA:=St→Hp→(List V→Hp→Prop)→Prop
structure pj where
  nx:St→Hp→Prop
  rt:VK
  bk:St→Hp→Prop:=fun _ _=>False
  ct:St→Hp→Prop:=fun _ _=>False
abbrev TS:=pj→St→Hp→Prop
def EP(X:Cx)(pins:List (xM × Obj))(σ:St)(Q:VK)(u:Kg)(s':MP):Prop:=∃v H',aC X pins σ H' s'∧bF v u∧Q v H'
def TP(X:Cx)(pins:List (xM × Obj))(σ:St)(Q:Bool→Hp→Prop)(b:Bool)(s':MP):Prop:=∃H',aC X pins σ H' s'∧Q b H'
def AP(X:Cx)(pins:List (xM × Obj))(σ:St)(Q:List V→Hp→Prop)(us:List Kg)(s':MP):Prop:=∃vs H',aC X pins σ H' s'∧aP vs us∧Q vs H'
def SP(X:Cx)(pins:List (xM × Obj))(D:pj)(f:Flow)(s':MP):Prop:=
  match f with
  | .next=>∃σ' H',aC X pins σ' H' s'∧D.nx σ' H'
  | .brk=>∃σ' H',aC X pins σ' H' s'∧D.bk σ' H'
  | .cont=>∃σ' H',aC X pins σ' H' s'∧D.ct σ' H'
  | .ret u=>∃v σ' H',aC X pins σ' H' s'∧bF v u∧D.rt v H'
def PE(X:Cx)(e:MU)(t:TE):Prop:=
  ∀(pins:List (xM × Obj)) (s:MP) (σ:St) (H:Hp) (Q:VK),aC X pins σ H s→t σ H Q→Nc (Ng X.prog X.w) X.A (Nh e X.env) (EP X pins σ Q) X.xe s
def PT(X:Cx)(e:MU)(t:TT):Prop:=
  ∀(pins:List (xM × Obj)) (s:MP) (σ:St) (H:Hp) (Q:Bool→Hp→Prop),aC X pins σ H s→t σ H Q→Nc (Ng X.prog X.w) X.A (isTrue e X.env (Nh e X.env)) (TP X pins σ Q) X.xe s
def PW(X:Cx)(e:MU)(t:TT):Prop:=
  ∀(whole:Sem Kg) (pins:List (xM × Obj)) (s:MP) (σ:St) (H:Hp) (Q:Bool→Hp→Prop),aC X pins σ H s→t σ H Q→Nc (Ng X.prog X.w) X.A (isTrue e X.env whole) (TP X pins σ Q) X.xe s
theorem PW.pt{X:Cx}{e:MU}{t:TT}(h:PW X e t):PT X e t:=h _
def PA(X:Cx)(es:List MU)(t:TA):Prop:=
  ∀(pos:Pos) (pins:List (xM × Obj)) (s:MP) (σ:St) (H:Hp) (Q:List V→Hp→Prop),aC X pins σ H s→t σ H Q→Nc (Ng X.prog X.w) X.A (spliced (Nr pos (Nf es X.env))) (AP X pins σ Q) X.xe s
def PS(X:Cx)(st:Na)(t:TS):Prop:=
  ∀(pins:List (xM × Obj)) (s:MP) (σ:St) (H:Hp) (D:pj),aC X pins σ H s→t D σ H→Nc (Ng X.prog X.w) X.A (exec st X.env) (SP X pins D) X.xe s
def i0(X:Cx)(st:List Na)(t:TS):Prop:=
  ∀(pins:List (xM × Obj)) (s:MP) (σ:St) (H:Hp) (D:pj),aC X pins σ H s→t D σ H→Nc (Ng X.prog X.w) X.A (execs st X.env) (SP X pins D) X.xe s
theorem cw{α:Type}{t:Sem α}{Q Q':α→MP→Prop}{M:Model}{A:Nb}{E:Kg→MP→Prop}{s:MP}(h:Nc M A t Q E s)(hQ:∀a s,Q a s→Q' a s):Nc M A t Q' E s:=On h hQ fun _ _ x=>x
section
variable{X:Cx}
def oX(i:Nat):TE:=fun σ H Q=>∃v,σ[i]?=some (some v)∧Q v H
def tC(v:V):TE:=fun _ H Q=>Q v H
theorem aZ{i:Nat}{x:Str}{pos:Pos}(hN:X.N[i]?=some x)(hv:FU X.env.scope x)(hd:(x==("__debug__":Str))=false:=by decide)(hcd:(x==("__classdict__":Str))=false:=by decide):PE X (.Name x pos) (oX i):=by
  intro pins s σ H Q I h
  obtain⟨v,e,h⟩:=h
  obtain⟨m,hn,hl⟩:=I.loc
  obtain⟨u,r,l⟩:=hl i x v hN e hv
  have fin:EP X pins σ Q u s:=⟨v,H,I,r,h⟩
  rcases l with ⟨hk,hm⟩ | ⟨hk,c,hc,hcell⟩
  · exact wpAny_Name (wpAny_loadName_local I.ok.kind hk hn hm fin) hd
  · rcases hk with hk | hk
    · exact wpAny_Name (wpAny_loadName_cell I.ok.kind hk hc hcell fin) hd
    · exact wpAny_Name (wpAny_loadName_free I.ok.kind hk hc hcell fin hcd) hd
theorem EH{i j pos}:PE X (.Constant (.int i) j pos) (tC (.int i)):=fun _ _ _ H _ I h=>wpAny_Constant_int ⟨.int i,H,I.tok _,⟨_,rfl⟩,h⟩
theorem GP{b j pos}:PE X (.Constant (.bool b) j pos) (tC (.bl b)):=fun _ _ _ H _ I h=>Constant_bool ⟨.bl b,H,I,rfl,h⟩
theorem EI{j pos}:PE X (.Constant .none j pos) (tC .non):=fun _ _ _ H _ I h=>Constant_none ⟨.non,H,I,rfl,h⟩
theorem uU{x j pos}:PE X (.Constant (.str x) j pos) (tC (.str x)):=fun _ _ _ H _ I h=>Calls.Constant_str ⟨.str x,H,I.tok _,⟨_,rfl⟩,h⟩
def Gl(X:Cx)(x:Str):Prop:=X.env.kindOf x=some .globalImplicit
theorem kG{E:Kg→MP→Prop}{pins:List (xM × Obj)}{s:MP}{σ:St}{H:Hp}{x:Str}{u:Kg}{pos:Pos}{Q:Kg→MP→Prop}(I:aC X pins σ H s)(hg:Gl X x)(hm:X.mg x=some u)(h:Q u s)
    (hd:(x==("__debug__":Str))=false:=by decide):Nc (Ng X.prog X.w) X.A (Nh (.Name x pos) X.env) Q E s:=
  Calls.Name_function_global I.ok.kind hg (Calls.loadGlobal_global (by rw [I.ok.glob];exact I.mod.glob.keeps I.bk) hm h) hd
theorem rc{E:Kg→MP→Prop}{pins:List (xM × Obj)}{s:MP}{σ:St}{H:Hp}{x:Str}{u:Kg}{pos:Pos}{Q:Kg→MP→Prop}(I:aC X pins σ H s)(hg:Gl X x)(hm:X.mg x=none)(hv:OA x=some u)(h:Q u s)
    (hn:x≠"__name__":=by decide)(hd:(x==("__debug__":Str))=false:=by decide):Nc (Ng X.prog X.w) X.A (Nh (.Name x pos) X.env) Q E s:=by
  obtain⟨mb,h1,h2⟩:=I.mod.blt
  exact Calls.Name_function_global I.ok.kind hg (Calls.loadGlobal_builtin (by rw [I.ok.glob];exact I.mod.glob.keeps I.bk) hm (by rw [I.ok.blt];exact h1.keeps I.bk) ((h2 x hn).trans hv) h) hd
theorem BK{x:Str}{v:V}{u:Kg}{pos:Pos}(hg:Gl X x)(hm:X.mg x=some u)(r:bF v u)(hd:(x==("__debug__":Str))=false:=by decide):PE X (.Name x pos) (tC v):=
  fun _ _ _ H _ I h=>kG I hg hm ⟨v,H,I,r,h⟩ hd
variable{a b:MU}{ta tb:TE}{pos:Pos}
def PC(X:Cx)(op:CmpOp)(a b:MU)(t:TE):Prop:=
  ∀(pins:List (xM × Obj)) (s:MP) (σ:St) (H:Hp) (Q:VK),aC X pins σ H s→t σ H Q→
    Nc (Ng X.prog X.w) X.A (Nh a X.env) (fun v s₁=>Nc (Ng X.prog X.w) X.A (Nh b X.env) (fun u s₂=>Nc (Ng X.prog X.w) X.A (NO op v u) (EP X pins σ Q) X.xe s₂) X.xe s₁) X.xe s
theorem yX(b:MU){op:CmpOp}(h:op≠.In)(h2:op≠.NotIn):Ov op b=false:=by
  have e1:(op==CmpOp.In)=false:=by cases op<;>first | rfl | exact absurd rfl h
  have e2:(op==CmpOp.NotIn)=false:=by cases op<;>first | rfl | exact absurd rfl h2
  cases b<;>simp [Ov,e1,e2]
def tB(t:TE):TT:=fun σ H Q=>t σ H fun x H1=>∃c,x=.bl c∧Q c H1
theorem EO{op:CmpOp}{t:TE}(h:PC X op a b t)(h1:Ov op b=false:=by first | exact yX _ (by decide) (by decide) | rfl):PT X (.Compare a [op] [b] pos) (tB t):=by
  intro pins s σ H Q I hw
  refine wpAny_isTrue_Compare1 (cw (h pins s σ H _ I hw) fun v s1 h1=>cw h1 fun u s2 h2=>cw h2 fun c s3 ⟨x,H1,I1,r1,q1⟩=>?_) h1
  obtain⟨d,rfl,q⟩:=q1
  cases r1
  exact PM ⟨H1,I1,q⟩
theorem zy{e:MU}{t:TE}(h:PE X e t)(he:∀whole,isTrue e X.env whole=(do let v ←whole;standAt e.pos;holding [v] (truthy v)):=by intro _;rfl):PT X e (tB t):=by
  intro pins s σ H Q I hw
  refine isTrue_plain (cw (h pins s σ H _ I hw) fun v s1 ⟨x,H1,I1,r1,q1⟩=>?_) (he _)
  obtain⟨d,rfl,q⟩:=q1
  cases r1
  exact PM ⟨H1,I1,q⟩
variable{tA tB':TT}{cf:List MU}
def Hh(t u:TT):TT:=fun σ H Q=>t σ H fun c H1=>if c=true then u σ H1 Q else Q false H1
def IZ(t u:TT):TT:=fun σ H Q=>t σ H fun c H1=>if c=true then Q true H1 else u σ H1 Q
def Ho(t:TT):TT:=fun σ H Q=>t σ H fun c H1=>Q (!c) H1
theorem BX(ha:PT X a tA):PW X (.BoolOp .And [a] pos) tA:=by
  intro wh pins s σ H Q I h
  refine isTrue_and (cw (ha pins s σ H Q I h) fun c s1 e=>?_)
  cases c with
  | true=>exact isTrue_and_nil e
  | false=>exact e
theorem zz(ha:PT X a tA):PW X (.BoolOp .Or [a] pos) tA:=by
  intro wh pins s σ H Q I h
  refine isTrue_or (cw (ha pins s σ H Q I h) fun c s1 e=>?_)
  cases c with
  | false=>exact isTrue_or_nil e
  | true=>exact e
theorem ER(ha:PT X a tA)(hb:PW X (.BoolOp .And (b::cf) pos) tB'):PW X (.BoolOp .And (a::b::cf) pos) (Hh tA tB'):=by
  intro wh pins s σ H Q I h
  refine isTrue_and (cw (ha pins s σ H _ I h) fun c s1 ⟨H1,I1,q1⟩=>?_)
  cases c with
  | true=>exact hb wh pins s1 σ H1 Q I1 q1
  | false=>exact⟨H1,I1,q1⟩
theorem CZ(ha:PT X a tA)(hb:PW X (.BoolOp .Or (b::cf) pos) tB'):PW X (.BoolOp .Or (a::b::cf) pos) (IZ tA tB'):=by
  intro wh pins s σ H Q I h
  refine isTrue_or (cw (ha pins s σ H _ I h) fun c s1 ⟨H1,I1,q1⟩=>?_)
  cases c with
  | true=>exact⟨H1,I1,q1⟩
  | false=>exact hb wh pins s1 σ H1 Q I1 q1
theorem zx(ha:PT X a tA):PT X (.UnaryOp .Not a pos) (Ho tA):=by
  intro pins s σ H Q I h
  exact isTrue_not (ha pins s σ H (fun c H1=>Q (!c) H1) I h)
def Hi(ta tb:TE):TE:=fun σ H Q=>ta σ H fun x H1=>∃c,x=.bl c∧if c=true then tb σ H1 Q else Q (.bl false) H1
theorem EJ{op}{t:TE}(h:PE X a t):PE X (.BoolOp op [a] pos) t:=fun pins s σ H Q I hw=>BoolOp_one (h pins s σ H Q I hw)
theorem EE(ha:PE X a ta)(hb:PE X (.BoolOp .And (b::cf) pos) tb):PE X (.BoolOp .And (a::b::cf) pos) (Hi ta tb):=by
  intro pins s σ H Q I h
  refine BoolOp_and (cw (ha pins s σ H _ I h) fun v s1 ⟨x,H1,I1,r1,q1⟩=>?_)
  obtain⟨c,rfl,q1⟩:=q1
  cases r1
  refine PM ?_
  cases c with
  | true=>exact hb pins s1 σ H1 Q I1 q1
  | false=>exact⟨.bl false,H1,I1,rfl,q1⟩
def J8(t:TT)(ta tb:TE):TE:=fun σ H Q=>t σ H fun c H1=>if c=true then ta σ H1 Q else tb σ H1 Q
theorem tL{c:MU}(hc:PT X c tA)(ha:PE X a ta)(hb:PE X b tb):PE X (.IfExp c a b pos) (J8 tA ta tb):=by
  intro pins s σ H Q I h
  refine wpAny_IfExp (cw (hc pins s σ H _ I h) fun d s1 ⟨H1,I1,q1⟩=>?_)
  cases d with
  | true=>exact ha pins s1 σ H1 Q I1 q1
  | false=>exact hb pins s1 σ H1 Q I1 q1
end
def gF(K:MS)(H:Hp)(a:xM)(xs:List V):Prop:=
  Rd H a (.lst xs)∨
    ∃(o:Obj) (its:Array Kg) (n:Nat),K.lookup a=some o∧o.cls=.type "list"∧o.dict=none∧o.data=.seq its n∧its.size≤Nl∧aP xs its.toList
def dN(K:MS)(H:Hp)(a:xM)(xs:List V):Prop:=
  Rd H a (.tup xs)∨
    ∃(o:Obj) (its:Array Kg) (n:Nat),K.lookup a=some o∧o.cls=.type "tuple"∧o.dict=none∧o.data=.seq its n∧its.size≤Nl∧aP xs its.toList
def Iw:Kg→Option V
  | .none=>some .non
  | .bool b=>some (.bl b)
  | .int i _=>some (.int i)
  | .str x _=>some (.str x)
  | .bytes b _=>some (.byt b)
  | .float b _=>some (.flt b)
  | .ref a=>some (.ref a)
  | .type n=>some (.ty n)
  | _=>none
theorem bF.abs{x:V}{u:Kg}(r:bF x u):Iw u=some x:=by
  cases x with
  | non=>cases r;rfl
  | bl _=>cases r;rfl
  | int _=>obtain⟨t,rfl⟩:=r;rfl
  | str _=>obtain⟨t,rfl⟩:=r;rfl
  | byt _=>obtain⟨t,rfl⟩:=r;rfl
  | flt _=>obtain⟨t,rfl⟩:=r;rfl
  | ref _=>cases r;rfl
  | ty _=>cases r;rfl
theorem bF.inj{x y:V}{u:Kg}(r:bF x u)(q:bF y u):x=y:=Og (r.abs.symm.trans q.abs)
theorem aP.inj:∀{xs ys:List V} {us:List Kg},aP xs us→aP ys us→xs=ys
  | _,_,_,.nil,.nil=>rfl
  | _,_,_,.cons r t,.cons r' t'=>by rw [r.inj r',aP.inj t t']
section
variable{X:Cx}{pins:List (xM × Obj)}{σ:St}{H:Hp}{s:MP}{a:xM}{xs ys:List V}
theorem gF.of{K:MS}(h:H a=some (.lst xs)):gF K H a xs:=.inl (.inl h)
theorem dN.of{K:MS}(h:H a=some (.tup xs)):dN K H a xs:=.inl (.inl h)
theorem aC.list(I:aC X pins σ H s)(h:gF X.K H a xs):∃its:List Kg,aP xs its∧PlainL s.heap a its.toArray∧xs.length≤Nl:=by
  rcases h with h | ⟨o,its,n,hk,hc,hd,hs,hz,r⟩
  · obtain⟨z,its,n,r,e⟩:=h.ok I.hok
    exact⟨its,r,⟨_,n,e,rfl,rfl,rfl⟩,z⟩
  · refine⟨its.toList,r,⟨o,n,I.kIn a o hk,hc,hd,by simpa using hs⟩,?_⟩
    have e:=r.length
    simp only [QF] at e
    lia
theorem aC.tuple(I:aC X pins σ H s)(h:dN X.K H a xs):∃its:List Kg,aP xs its∧IsTup s.heap a its.toArray∧xs.length≤Nl:=by
  rcases h with h | ⟨o,its,n,hk,hc,_,hs,hz,r⟩
  · obtain⟨z,its,r,p⟩:=h.ok I.hok
    exact⟨its,r,p.tup,z⟩
  · refine⟨its.toList,r,⟨o,I.kIn a o hk,hc,n,by simpa using hs⟩,?_⟩
    have e:=r.length
    simp only [QF] at e
    lia
theorem aC.list_inj(I:aC X pins σ H s)(h:gF X.K H a xs)(h':gF X.K H a ys):xs=ys:=by
  obtain⟨its,r,⟨o,n,e,_,_,d⟩,_⟩:=I.list h
  obtain⟨its',r',⟨o',n',e',_,_,d'⟩,_⟩:=I.list h'
  rw [e] at e';cases e'
  rw [d] at d'
  injection d' with d1 _
  have:its=its':=by simpa using congrArg Array.toList d1
  subst this
  exact r.inj r'
theorem aC.tuple_inj(I:aC X pins σ H s)(h:dN X.K H a xs)(h':dN X.K H a ys):xs=ys:=by
  obtain⟨its,r,⟨o,e,_,n,d⟩,_⟩:=I.tuple h
  obtain⟨its',r',⟨o',e',_,n',d'⟩,_⟩:=I.tuple h'
  rw [e] at e';cases e'
  rw [d] at d'
  injection d' with d1 _
  have:its=its':=by simpa using congrArg Array.toList d1
  subst this
  exact r.inj r'
end
abbrev Cx.wish(X:Cx)(E:Kg→MP→Prop):Cx:={X with xe:=E}
abbrev Cx.nox(X:Cx):Cx:=X.wish fun _ _=>False
theorem Cx.Ok.wish{X:Cx}(ok:X.Ok)(E:Kg→MP→Prop):(X.wish E).Ok:=
  ⟨ok.mod,ok.kind,ok.glob,ok.blt,ok.above,ok.inj,ok.has,ok.cab,ok.hd,ok.frames,ok.stk,ok.exf,ok.bs,ok.bsz,ok.noex,ok.exfs,ok.funs,ok.frf⟩
theorem Cx.Ok.unwish{X:Cx}{E:Kg→MP→Prop}(ok:(X.wish E).Ok):X.Ok:=
  ⟨ok.mod,ok.kind,ok.glob,ok.blt,ok.above,ok.inj,ok.has,ok.cab,ok.hd,ok.frames,ok.stk,ok.exf,ok.bs,ok.bsz,ok.noex,ok.exfs,ok.funs,ok.frf⟩
section
variable{X:Cx}{pins:List (xM × Obj)}{σ:St}{H:Hp}{s:MP}{E:Kg→MP→Prop}
theorem aC.wish(I:aC X pins σ H s)(E:Kg→MP→Prop):aC (X.wish E) pins σ H s:=⟨I.ok.wish E,I.os,I.bare,I.base,I.loc,I.cell,I.free,I.freeC,I.pin,I.hok,I.len⟩
theorem aC.unwish(I:aC (X.wish E) pins σ H s):aC X pins σ H s:=⟨I.ok.unwish,I.os,I.bare,I.base,I.loc,I.cell,I.free,I.freeC,I.pin,I.hok,I.len⟩
theorem SP.unwish{D:pj}{f:Flow}{s':MP}(h:SP (X.wish E) pins D f s'):SP X pins D f s':=by
  cases f with
  | next=>obtain⟨σ',H',I,q⟩:=h;exact⟨σ',H',I.unwish,q⟩
  | brk=>obtain⟨σ',H',I,q⟩:=h;exact⟨σ',H',I.unwish,q⟩
  | cont=>obtain⟨σ',H',I,q⟩:=h;exact⟨σ',H',I.unwish,q⟩
  | ret u=>obtain⟨v,σ',H',I,r,q⟩:=h;exact⟨v,σ',H',I.unwish,r,q⟩
theorem i0.nox{st:List Na}{t:TS}(h:i0 X.nox st t):i0 X st t:=fun pins s σ H D I hw=>
  On (h pins s σ H D (I.wish _) hw) (fun _ _ q=>q.unwish) fun _ _ z=>Oo z
end
section
variable{X:Cx}{st:Na}{cf:List Na}{t u:TS}{e:MU}{te:TE}{pos:Pos}
def Hn:TS:=fun D σ H=>D.nx σ H
def Jb(t u:TS):TS:=fun D σ H=>t {D with nx:=u D} σ H
theorem vS:i0 X [] Hn:=fun _ _ σ H _ I h=>Qf ⟨σ,H,I,h⟩
theorem kU(h1:PS X st t)(h2:i0 X cf u):i0 X (st::cf) (Jb t u):=by
  intro pins s σ H D I h
  refine wpAny_execs_cons (cw (h1 pins s σ H {D with nx:=u D} I h) fun f s1 q=>?_)
  cases f with
  | next=>
    obtain⟨σ',H',I',q⟩:=q
    exact h2 pins s1 σ' H' D I' q
  | ret v=>exact q
  | brk=>exact q
  | cont=>exact q
theorem rE(h1:PS X st t):i0 X [st] t:=by
  intro pins s σ H D I h
  refine wpAny_execs_cons (cw (h1 pins s σ H D I h) fun f s1 q=>?_)
  cases f with
  | next=>exact Qf q
  | ret v=>exact q
  | brk=>exact q
  | cont=>exact q
theorem aC.quiet{pins:List (xM × Obj)}{σ:St}{H:Hp}{s:MP}(I:aC X pins σ H s):interactive X.env=false:=by simp [interactive,I.ok.kind]
def Hk(te:TE):TS:=fun D σ H=>te σ H fun _ H1=>D.nx σ H1
theorem BU(he:PE X e te)(hs:OT e none pos.line X.env=pure false:=by rfl):PS X (.Expr e pos) (Hk te):=by
  intro pins s σ H D I h
  exact wpAny_Expr_any (cw (he pins s σ H _ I h) fun v s1 ⟨x,H1,I1,r1,q1⟩=>⟨σ,H1,I1,q1⟩) I.quiet hs
def Ja(te:TE):TS:=fun D σ H=>te σ H D.rt
theorem uX(he:PE X e te):PS X (.Return (some e) pos) (Ja te):=by
  intro pins s σ H D I h
  exact wpAny_Return_some (cw (he pins s σ H _ I h) fun v s1 ⟨x,H1,I1,r1,q1⟩=>⟨x,σ,H1,I1,r1,q1⟩)
def IX(c:TT)(t u:TS):TS:=fun D σ H=>c σ H fun b H1=>if b=true then t D σ H1 else u D σ H1
theorem CY{c:MU}{a b:List Na}{tc:TT}(hc:PT X c tc)(ha:i0 X a t)(hb:i0 X b u):PS X (.If c a b pos) (IX tc t u):=by
  intro pins s σ H D I h
  refine wpAny_If (cw (hc pins s σ H _ I h) fun d s1 ⟨H1,I1,q1⟩=>?_)
  cases d with
  | true=>exact ha pins s1 σ H1 D I1 q1
  | false=>exact hb pins s1 σ H1 D I1 q1
end
abbrev TG:=V→St→Hp→(St→Hp→Prop)→Prop
abbrev Aq:=List V→St→Hp→(St→Hp→Prop)→Prop
def PG(X:Cx)(target:MU)(t:TG):Prop:=
  ∀(pins:List (xM × Obj)) (s:MP) (σ:St) (H:Hp) (v:V) (u:Kg) (Q:St→Hp→Prop),aC X pins σ H s→bF v u→t v σ H Q→
    Nc (Ng X.prog X.w) X.A (assign target X.env u) (fun _ s'=>∃σ' H',aC X pins σ' H' s'∧Q σ' H') X.xe s
def xQ(X:Cx)(ts:List MU)(t:Aq):Prop:=
  ∀(pins:List (xM × Obj)) (s:MP) (σ:St) (H:Hp) (vs:List V) (us:List Kg) (Q:St→Hp→Prop),aC X pins σ H s→aP vs us→t vs σ H Q→
    Nc (Ng X.prog X.w) X.A (assignInOrder ((NL ts X.env).map (·.2)) us) (fun _ s'=>∃σ' H',aC X pins σ' H' s'∧Q σ' H') X.xe s
section
variable{X:Cx}{pos:Pos}
def CN(i:Nat):TG:=fun v σ H Q=>Q (σ.set i (some v)) H
theorem rC{i:Nat}{x:Str}(hN:X.N.Nodup)(hi:X.N[i]?=some x)(hx:xT X.env.scope x)(hf:X.fn x=true∨X.env.scope.names.lookup x=some .local:=by first | exact .inl rfl | exact .inr rfl | assumption):PG X (.Name x pos) (CN i):=by
  intro pins s σ H v u Q I r h
  exact wpAny_assign_Name (lu I hN hi hx r (fun s' I'=>⟨_,H,I',h⟩) hf)
def IA:Aq:=fun vs σ H Q=>vs=[]∧Q σ H
def Gb(t:TG)(u:Aq):Aq:=fun vs σ H Q=>∃v r,vs=v::r∧t v σ H fun σ' H'=>u r σ' H' Q
theorem vR:xQ X [] IA:=by
  intro pins s σ H vs us Q I r h
  obtain⟨e,h⟩:=h
  subst e
  cases r
  exact assignInOrder_nil ⟨σ,H,I,h⟩
theorem oy{e:MU}{es:List MU}{t:TG}{u:Aq}(h1:PG X e t)(h2:xQ X es u)
    (hs:(NL (e::es) X.env).map (·.2)=assign e X.env::(NL es X.env).map (·.2):=by rfl):xQ X (e::es) (Gb t u):=by
  intro pins s σ H vs us Q I r h
  obtain⟨v,vr,e1,h⟩:=h
  subst e1
  cases r with
  | cons r rr=>
    rw [hs]
    refine assignInOrder_cons (cw (h1 pins s σ H _ _ _ I r h) fun _ s1 ⟨σ1,H1,I1,q1⟩=>?_)
    exact h2 pins s1 σ1 H1 _ _ Q I1 rr q1
def Gd(K:MS)(n:Nat)(t:Aq):TG:=fun v σ H Q=>∃a xs,v=.ref a∧dN K H a xs∧xs.length=n∧t xs σ H Q
theorem EK{es:List MU}{k:Nat}{t:Aq}{n:Nat}(hc:X.calm=true)(h:xQ X es t)
    (hn:(NL es X.env).length=n:=by rfl)(hst:(NL es X.env).findIdx? (·.1)=none:=by rfl):PG X (.Tuple es k pos) (Gd X.K n t):=by
  intro pins s σ H v u Q I r hw
  obtain⟨a,xs,e1,hq,hl,hw⟩:=hw
  subst e1
  cases r
  obtain⟨its,rv,ht,hz⟩:=I.tuple hq
  refine assign_Tuple_tuple (I.ok.hd hc) ht (by simp [hn,←hl,rv.length]) hst fun h' hx=>?_
  have I1:aC X pins σ H {s with heap:=h'}:=I.kept (t':=s.toks) fun b o e=>hx b o (Oc (Nt e)) e
  exact h pins _ σ H xs _ Q I1 (by simpa using rv) hw
def Hj(te:TE)(g:TG):TS:=fun D σ H=>te σ H fun x H1=>g x σ H1 D.nx
theorem zu{tg e:MU}{te:TE}{g:TG}(he:PE X e te)(hg:PG X tg g)(hs:PN [tg] e pos.line X.env=pure false:=by rfl)(hw:PP [tg] e X.env=pure none:=by rfl)
    (h1:(NL [tg] X.env).map (·.2)=[assign tg X.env]:=by rfl):PS X (.Assign [tg] e pos) (Hj te g):=by
  intro pins s σ H D I h
  refine wpAny_Assign_stores (cw (he pins s σ H _ I h) fun v s1 ⟨x,H1,I1,r1,q1⟩=>?_) hs hw
  rw [h1]
  exact cw (hg pins s1 σ H1 x v _ I1 r1 q1) fun _ s2 q=>q
theorem rD{i:Nat}{x:Str}{e:MU}{te:TE}{pos':Pos}(hN:X.N.Nodup)(hi:X.N[i]?=some x)(hx:xT X.env.scope x)(he:PE X e te)(hs:OT e (some (.Name x pos')) pos.line X.env=pure false:=by rfl)(hf:X.fn x=true∨X.env.scope.names.lookup x=some .local:=by first | exact .inl rfl | exact .inr rfl | assumption):
    PS X (.Assign [.Name x pos'] e pos) (Hj te (CN i)):=by
  intro pins s σ H D I h
  refine wpAny_Assign_Name (cw (he pins s σ H _ I h) fun v s1 ⟨y,H1,I1,r1,q1⟩=>?_) hs
  exact lu I1 hN hi hx r1 (fun s2 I2=>⟨_,H1,I2,q1⟩) hf
def I_(i j:Nat)(ta:TA):TS:=fun D σ H=>ta σ H fun vs H1=>∃v w,vs=[v,w]∧D.nx ((σ.set i (some v)).set j (some w)) H1
theorem EN{i j:Nat}{x y:Str}{a b:MU}{ta:TA}{px py pt:Pos}{kt k2 pt2}(hc:X.calm=true)(hN:X.N.Nodup)(hi:X.N[i]?=some x)(hj:X.N[j]?=some y)(hij:i≠j)
    (hx:X.env.scope.names.lookup x=some .local)(hy:X.env.scope.names.lookup y=some .local)(ha:PA X [a,b] ta)
    (hw:PP [.Tuple [.Name x px,.Name y py] kt pt] (.Tuple [a,b] k2 pt2) X.env=pure (some [x,y]))
    (hs:PN [.Tuple [.Name x px,.Name y py] kt pt] (.Tuple [a,b] k2 pt2) pos.line X.env=pure false:=by rfl):
    PS X (.Assign [.Tuple [.Name x px,.Name y py] kt pt] (.Tuple [a,b] k2 pt2) pos) (I_ i j ta):=by
  intro pins s σ H D I h
  rw [exec_Assign_arm]
  refine Ni (wpAny_standAt ?_)
  rw [hs]
  refine Ni (Nm ?_)
  rw [if_neg (by decide)]
  refine Ni (Tuple_ (cw (ha _ pins s σ H _ I h) fun us s1 ⟨vs,H1,I1,r1,q1⟩=>?_))
  obtain⟨v,w,e1,q1⟩:=q1
  subst e1
  obtain⟨u1,u2,rfl,rv,rw'⟩:∃u1 u2,us=[u1,u2]∧bF v u1∧bF w u2:=by
    cases r1 with
    | cons p q=>
      cases q with
      | cons p' q'=>
        cases q'
        exact⟨_,_,rfl,p,p'⟩
  refine Pj ?_ (by show 2≤Nl;decide)
  have I2:aC X pins σ H1 {s1 with heap:=s1.heap.push {cls:=.type "tuple",data:=.seq [u1,u2].toArray}}:=I1.kept (t':=s1.toks) fun b o e=>NH _ e
  rw [hw]
  refine Ni (Nm ?_)
  show Nc (Ng X.prog X.w) X.A (do rule "assign.swapped-stores";let items ←unpackItems (.ref s1.heap.objs.size) 2 none;assignInOrder [fun v=>bindName X.env y v,fun v=>bindName X.env x v] items.reverse;pure Flow.next) _ _ _
  refine Ni (wpAny_rule (Ni (unpackItems_tuple (items:=#[u1,u2]) (I.ok.hd hc) (IsTup.new s1.heap _) fun h' hx'=>?_)))
  have I3:=I2.kept (h':=h') (t':=s1.toks) fun b o e=>hx' b o (Oc (Nt e)) e
  show Nc _ _ (assignInOrder [fun v=>bindName X.env y v,fun v=>bindName X.env x v] [u2,u1] >>= fun _=>pure Flow.next) _ _ _
  refine Ni (assignInOrder_cons (wpAny_bindName (lu I3 hN hj (.inl hy) rw' (fun s2 I4=>?_) (.inr hy))))
  refine assignInOrder_cons (wpAny_bindName (lu I4 hN hi (.inl hx) rv (fun s3 I5=>assignInOrder_nil (Nm ?_)) (.inr hx)))
  rw [List.set_comm _ _ (Ny hij)] at I5
  exact⟨_,H1,I5,q1⟩
end
section
variable{X:Cx}{pos:Pos}
def Fs(c:TT)(tb:TS):TS:=fun D σ H=>∃W:Nat→St→Hp→Prop,(∃m,W m σ H)∧∀m σ H,W m σ H→
  c σ H fun b H1=>if b=true then ∃N:St→Hp→Prop,(∀σ' H',N σ' H'→∃m',m' < m∧W m' σ' H')∧tb {D with nx:=N,ct:=N,bk:=D.nx} σ H1 else D.nx σ H1
theorem zw{c:MU}{body:List Na}{tc:TT}{tb:TS}(hp:PassesOwn (Ng X.prog X.w) X.A X.env X.xe)(hc:PT X c tc)(hb:i0 X body tb):PS X (.While c body [] pos) (Fs tc tb):=by
  intro pins s σ H D I h
  obtain⟨W,⟨m0,w0⟩,turn⟩:=h
  refine wpAny_While (codeAny_whileLoop (fun n s'=>∃σ' H',aC X pins σ' H' s'∧W n σ' H') ?_ m0 ⟨σ,H,I,w0⟩)
  rintro n s1 ⟨σ1,H1,I1,w1⟩
  refine Pk hp (cw (hc pins s1 σ1 H1 _ I1 (turn n σ1 H1 w1)) fun b s2 ⟨H2,I2,q2⟩=>?_)
  cases b with
  | true=>
    obtain⟨N,hN,q2⟩:=q2
    rw [if_pos rfl]
    refine Pk hp (cw (hb pins s2 σ1 H2 _ I2 q2) fun f s3 q3=>?_)
    cases f with
    | next=>
      obtain⟨σ3,H3,I3,n3⟩:=q3
      obtain⟨m',hm,w3⟩:=hN σ3 H3 n3
      exact⟨m',hm,σ3,H3,I3,w3⟩
    | cont=>
      obtain⟨σ3,H3,I3,n3⟩:=q3
      obtain⟨m',hm,w3⟩:=hN σ3 H3 n3
      exact⟨m',hm,σ3,H3,I3,w3⟩
    | brk=>exact q3
    | ret v=>exact q3
  | false=>
    rw [if_neg Pl]
    exact Qf ⟨σ1,H2,I2,q2⟩
end
structure It where
  go:Nat→Hp→Prop
  yld:Nat→Hp→V→Hp→Prop
  stop:Nat→Hp→Prop
def mZ(X:Cx)(pins:List (xM × Obj))(H:Hp)(b:xM):Prop:=
  H b=none∧b≠X.env.locals∧b∉X.fs∧(b∈X.ex∨X.s₀.heap.objs.size≤b)∧(∀x c,X.env.cells.lookup x=some c→c≠b)∧∀p∈X.pn++pins,p.1≠b
theorem aC.fpOk{X:Cx}{pins:List (xM × Obj)}{σ:St}{H H':Hp}{s:MP}{b:xM}(I:aC X pins σ H s)(hb:s.heap.objs.size≤b)(hn:H' b=none):mZ X pins H' b:=by
  refine⟨hn,Nat.ne_of_gt (NS I.lt hb),I.nofs hb,.inr (NG I.sz hb),fun x c e z=>?_,fun p hp z=>?_⟩
  · obtain⟨v,q⟩:=I.cell x c e
    exact absurd (NS q.lt (by rw [z];exact hb)) (OS _)
  · exact absurd (NS (Nt (I.pin p hp).1) (by rw [z];exact hb)) (OS _)
structure AF (P:MZ) (w:MV) (K:MS) (tg:MU) (J:It) (fp:List xM) (it:xM) (tn:Nat→MY→Prop):Prop where
  mem:it∈fp
  obj:∀i h,tn i h→∀b∈fp,∃o,h.get? b=some o∧∀v,o.data≠.cell v
  keep:∀i h h',tn i h→(∀b∈fp,∀o,h.get? b=some o→h'.get? b=some o)→tn i h'
  item:∀(X:Cx),X.prog=P→X.w=w→X.K=K→X.calm=true→∀(i:Nat) (pins:List (xM × Obj)) (s:MP) (σ:St) (H:Hp) (E:Kg→MP→Prop),aC X pins σ H s→(∀b∈fp,mZ X pins H b)→tn i s.heap→J.go i H→
    Nc (Ng P w) X.A (pyNext (.ref it)) (fun r s1=>∃u,r=some u∧
      Nc (Ng P w) X.A (Qg tg (.ref it) u) (fun _ s2=>∃x H',aC X pins σ H' s2∧bF x u∧J.yld i H x H'∧tn (i+1) s2.heap∧∀b∈fp,H' b=none) E s1) E s
  done:∀(X:Cx),X.prog=P→X.w=w→X.K=K→X.calm=true→∀(i:Nat) (pins:List (xM × Obj)) (s:MP) (σ:St) (H:Hp) (E:Kg→MP→Prop),aC X pins σ H s→(∀b∈fp,mZ X pins H b)→tn i s.heap→J.stop i H→
    Nc (Ng P w) X.A (pyNext (.ref it)) (fun r s1=>r=none∧aC X pins σ H s1) E s
  self:∀(A:Nb) (i:Nat) (s:MP) (Q:Kg→MP→Prop) (E:Kg→MP→Prop),tn i s.heap→Q (.ref it) s→Nc (Ng P w) A (pyIter (.ref it)) Q E s
abbrev TI:=St→Hp→(It→Hp→Prop)→Prop
def Jj(X:Cx)(pins:List (xM × Obj))(σ:St)(tg:MU)(R:It→Hp→Prop)(itv:Kg)(s2:MP):Prop:=
  ∃(it:xM) (fp:List xM) (tn:Nat→MY→Prop) (J:It) (H':Hp),itv=.ref it∧aC X pins σ H' s2∧AF X.prog X.w X.K tg J fp it tn∧tn 0 s2.heap∧(∀b∈fp,mZ X pins H' b)∧R J H'
def PI(X:Cx)(tg iter:MU)(wi:TI):Prop:=
  ∀(pins:List (xM × Obj)) (s:MP) (σ:St) (H:Hp) (R:It→Hp→Prop),aC X pins σ H s→wi σ H R→
    Nc (Ng X.prog X.w) X.A (Nh iter X.env) (fun v s1=>Nc (Ng X.prog X.w) X.A (pyIter v) (Jj X pins σ tg R) X.xe s1) X.xe s
theorem yy{M:Model}{A:Nb}{E:Kg→MP→Prop}{s:MP}{tg:MU}{it:xM}{u:Kg}{o:Obj}{n:String}{vs:Array Kg}{Q:Unit→MP→Prop}(ho:s.heap.get? it=some o)(hc:o.cls=.type n)(hd:o.data=.fields vs)
    (hn:["enumerate","zip","dict_itemiterator","dict_reverseitemiterator","odict_iterator","itertools.zip_longest","itertools.pairwise"].contains n=false)(hQ:Q () s):Nc M A (Qg tg (.ref it) u) Q E s:=by
  unfold Qg
  cases tg<;>first
    | exact Nm hQ
    | (cases u<;>first
        | exact Nm hQ
        | (refine Ni (wpAny_load ho ?_)
           rw [hc,hd]
           show Nc M A (if (["enumerate","zip","dict_itemiterator","dict_reverseitemiterator","odict_iterator","itertools.zip_longest","itertools.pairwise"].contains n&&vs[0]?==some (rawInt _))=true then _ else _) Q E s
           rw [if_neg (by intro h;rw [hn,Bool.false_and] at h;cases h)]
           exact Nm hQ))
def H_(K:MS)(a:xM):It:=
  ⟨fun i H=>∃xs x,gF K H a xs∧xs[i]?=some x,fun i H x H'=>H'=H∧∀xs,gF K H a xs→xs[i]?=some x,fun i H=>∃xs,gF K H a xs∧xs.length≤i⟩
def Ia(K:MS)(a:xM):It:=
  ⟨fun i H=>∃xs x,dN K H a xs∧xs[i]?=some x,fun i H x H'=>H'=H∧∀xs,dN K H a xs→xs[i]?=some x,fun i H=>∃xs,dN K H a xs∧xs.length≤i⟩
def HE(lo:Int)(n:Nat):It:=⟨fun i _=>i < n,fun i H x H'=>H'=H∧x=.int (lo+i),fun i _=>n≤i⟩
theorem xO{P:MZ}{w:MV}{K:MS}{tg:MU}(a it:xM):AF P w K tg (H_ K a) [it] it (fun i h=>h.IsListIter it a i) where
  mem:=by simp
  obj:=fun i h st b hb=>by
    have e:b=it:=by simpa using hb
    subst e
    obtain⟨o,e,c,d⟩:=st
    exact⟨o,e,fun v z=>by rw [d] at z;cases z⟩
  keep:=fun i h h' st k=>st.at fun o e=>k it (by simp) o e
  item:=by
    intro X hP hw hK hc i pins s σ H E I hf st hg
    subst hP hw hK
    obtain⟨xs,x,hq,hx⟩:=hg
    obtain⟨its,rv,p,hz⟩:=I.list hq
    obtain⟨u,hu,ru⟩:=rv.get hx
    obtain⟨f0,f1,f2,f3,f4,f5⟩:=hf it (by simp)
    refine wpAny_pyNext_list_item st p.isList (x:=u) (by simpa using hu) fun h' st' sb=>?_
    have I1:aC X pins σ H {s with heap:=h'}:=I.turned (t':=s.toks) (fun b o hb e=>(sb.2 b hb).trans e) f0 f1 f3 f4 f5
    obtain⟨o,e,c,d⟩:=id st'
    exact⟨u,rfl,yy (s:={s with heap:=h'}) e c d (by decide) ⟨x,H,I1,ru,⟨rfl,fun ys hy=>by rw [I.list_inj hy hq];exact hx⟩,st',fun b hb=>(hf b hb).1⟩⟩
  done:=by
    intro X hP hw hK hc i pins s σ H E I hf st hg
    subst hP hw hK
    obtain⟨xs,hq,hx⟩:=hg
    obtain⟨its,rv,p,hz⟩:=I.list hq
    obtain⟨f0,f1,f2,f3,f4,f5⟩:=hf it (by simp)
    have hl:=rv.length
    exact wpAny_pyNext_list_end (I.ok.hd hc) st p.isList (by simp;lia) fun h' eb=>⟨rfl,I.turned (t':=s.toks) (fun b o hb e=>eb b o hb e) f0 f1 f3 f4 f5⟩
  self:=fun _ _ _ _ _ st h=>wpAny_pyIter_listiter st h
theorem vf{P:MZ}{w:MV}{K:MS}{tg:MU}(a it:xM):AF P w K tg (Ia K a) [it] it (fun i h=>h.IsTupleIter it a i) where
  mem:=by simp
  obj:=fun i h st b hb=>by
    have e:b=it:=by simpa using hb
    subst e
    obtain⟨o,e,c,d⟩:=st
    exact⟨o,e,fun v z=>by rw [d] at z;cases z⟩
  keep:=fun i h h' st k=>st.at fun o e=>k it (by simp) o e
  item:=by
    intro X hP hw hK hc i pins s σ H E I hf st hg
    subst hP hw hK
    obtain⟨xs,x,hq,hx⟩:=hg
    obtain⟨its,rv,p,hz⟩:=I.tuple hq
    obtain⟨u,hu,ru⟩:=rv.get hx
    obtain⟨f0,f1,f2,f3,f4,f5⟩:=hf it (by simp)
    refine wpAny_pyNext_tuple_item st (show s.heap.IsTuple a its.toArray from p) (x:=u) (by simpa using hu) fun h' st' sb=>?_
    have I1:aC X pins σ H {s with heap:=h'}:=I.turned (t':=s.toks) (fun b o hb e=>(sb.2 b hb).trans e) f0 f1 f3 f4 f5
    obtain⟨o,e,c,d⟩:=id st'
    exact⟨u,rfl,yy (s:={s with heap:=h'}) e c d (by decide) ⟨x,H,I1,ru,⟨rfl,fun ys hy=>by rw [I.tuple_inj hy hq];exact hx⟩,st',fun b hb=>(hf b hb).1⟩⟩
  done:=by
    intro X hP hw hK hc i pins s σ H E I hf st hg
    subst hP hw hK
    obtain⟨xs,hq,hx⟩:=hg
    obtain⟨its,rv,p,hz⟩:=I.tuple hq
    obtain⟨f0,f1,f2,f3,f4,f5⟩:=hf it (by simp)
    have hl:=rv.length
    exact wpAny_pyNext_tuple_end (I.ok.hd hc) st (show s.heap.IsTuple a its.toArray from p) (by simp;lia) fun h' eb=>⟨rfl,I.turned (t':=s.toks) (fun b o hb e=>eb b o hb e) f0 f1 f3 f4 f5⟩
  self:=fun _ _ _ _ _ st h=>wpAny_pyIter_tupleiter st h
theorem ve{P:MZ}{w:MV}{K:MS}{tg:MU}(it:xM)(lo:Int)(n:Nat):AF P w K tg (HE lo n) [it] it (fun i h=>IsRangeIter h it (lo+(i:Nat)*1) ((n:Int) - (i:Nat)) 1) where
  mem:=by simp
  obj:=fun i h st b hb=>by
    have e:b=it:=by simpa using hb
    subst e
    exact⟨_,st,fun v z=>by
      have z':Data.fields _=Data.cell v:=z
      cases z'⟩
  keep:=fun i h h' st k=>k it (by simp) _ st
  item:=by
    intro X hP hw hK hc i pins s σ H E I hf st hg
    subst hP hw hK
    obtain⟨f0,f1,f2,f3,f4,f5⟩:=hf it (by simp)
    have W:=Walks.range (prog:=X.prog) (w:=X.w) (I.ok.hd hc) it lo 1 n
    refine W.item i s _ _ hg st fun v h' tk hv st' kk=>?_
    obtain⟨t,rfl⟩:=hv
    have I1:aC X pins σ H {s with heap:=h',toks:=tk}:=I.turned (fun b o hb e=>kk b o (by simpa using hb) e) f0 f1 f3 f4 f5
    refine⟨_,rfl,yy (s:={s with heap:=h',toks:=tk}) (n:="range_iterator") st' rfl rfl (by decide) ⟨.int (lo+i),H,I1,⟨t,?_⟩,⟨rfl,rfl⟩,st',fun b hb=>(hf b hb).1⟩⟩
    rw [Int.mul_one]
  done:=by
    intro X hP hw hK hc i pins s σ H E I hf st hg
    subst hP hw hK
    obtain⟨f0,f1,f2,f3,f4,f5⟩:=hf it (by simp)
    exact wpAny_pyNext_range_end (I.ok.hd hc) st (by have:n≤i:=hg;lia) fun h' eb=>⟨rfl,I.turned (t':=s.toks) (fun b o hb e=>eb b o hb e) f0 f1 f3 f4 f5⟩
  self:=fun _ _ _ _ _ st h=>wpAny_pyIter_rangeiter st h
section
variable{X:Cx}{tg:MU}
def CP(K:MS)(tl:TE):TI:=fun σ H R=>tl σ H fun x H1=>∃a,x=.ref a∧(∃xs,gF K H1 a xs)∧R (H_ K a) H1
def Gf(K:MS)(tl:TE):TI:=fun σ H R=>tl σ H fun x H1=>∃a,x=.ref a∧(∃xs,dN K H1 a xs)∧R (Ia K a) H1
theorem BN{l:MU}{tl:TE}(hl:PE X l tl):PI X tg l (CP X.K tl):=by
  intro pins s σ H R I h
  refine cw (hl pins s σ H _ I h) fun v s1 ⟨x,H1,I1,r1,q1⟩=>?_
  obtain⟨a,e,⟨xs,hq⟩,q⟩:=q1
  subst e
  cases r1
  obtain⟨its,rv,p,hz⟩:=I1.list hq
  refine wpAny_pyIter_list p.isList ?_
  refine⟨s1.heap.objs.size,[s1.heap.objs.size],_,_,H1,rfl,I1.kept (t':=s1.toks) fun b o e=>NH _ e,xO a _,⟨_,Oa _ rfl,rfl,rfl⟩,fun b hb=>?_,q⟩
  have e:b=s1.heap.objs.size:=by simpa using hb
  subst e
  exact I1.fpOk (Nn _) (I1.hok.fresh (Nn _))
theorem EL{l:MU}{tl:TE}(hl:PE X l tl):PI X tg l (Gf X.K tl):=by
  intro pins s σ H R I h
  refine cw (hl pins s σ H _ I h) fun v s1 ⟨x,H1,I1,r1,q1⟩=>?_
  obtain⟨a,e,⟨xs,hq⟩,q⟩:=q1
  subst e
  cases r1
  obtain⟨its,rv,p,hz⟩:=I1.tuple hq
  refine wpAny_pyIter_tuple (show s1.heap.IsTuple a its.toArray from p) ?_
  refine⟨s1.heap.objs.size,[s1.heap.objs.size],_,_,H1,rfl,I1.kept (t':=s1.toks) fun b o e=>NH _ e,vf a _,⟨_,Oa _ rfl,rfl,rfl⟩,fun b hb=>?_,q⟩
  have e:b=s1.heap.objs.size:=by simpa using hb
  subst e
  exact I1.fpOk (Nn _) (I1.hok.fresh (Nn _))
theorem zT{pins:List (xM × Obj)}{σ:St}{H:Hp}{s:MP}{R:It→Hp→Prop}{E:Kg→MP→Prop}{lo hi:Int}{t u v:Tok}{tk:Nat}(I:aC X pins σ H s)(h1: -(2 ^ 62)≤lo)(h2:lo < 2 ^ 62)(h3: -(2 ^ 62)≤hi)(h4:hi < 2 ^ 62)
    (q:R (HE lo (hi - lo).toNat) H):Nc (Ng X.prog X.w) X.A (pyIter (.ref s.heap.objs.size)) (Jj X pins σ tg R) E {s with heap:=s.heap.push {cls:=.type "range",data:=.fields #[.int lo t,.int hi u,.int 1 v]},toks:=tk}:=by
  refine wpAny_pyIter_range (IsRange.new ..) (small_one h1 h2 h3 h4) ?_
  have I1:aC X pins σ H {s with heap:=s.heap.push {cls:=.type "range",data:=.fields #[.int lo t,.int hi u,.int 1 v]},toks:=tk}:=I.kept fun b o e=>NH _ e
  refine⟨(s.heap.push {cls:=.type "range",data:=.fields #[.int lo t,.int hi u,.int 1 v]}).objs.size,[(s.heap.push {cls:=.type "range",data:=.fields #[.int lo t,.int hi u,.int 1 v]}).objs.size],_,_,H,rfl,
    I1.kept (t':=tk) fun b o e=>NH _ e,ve _ lo (hi - lo).toNat,?_,fun b hb=>?_,q⟩
  · have e1:lo+((0:Nat):Int)*1=lo:=by simp
    have e2:(((hi - lo).toNat:Nat):Int) - ((0:Nat):Int)=Builtin.Range.rangeSize lo hi 1:=by rw [rangeSize_one];split<;>lia
    show IsRangeIter _ _ (lo+((0:Nat):Int)*1) ((((hi - lo).toNat:Nat):Int) - ((0:Nat):Int)) 1
    rw [e1,e2]
    exact Oa _ rfl
  · have e:b=(s.heap.push {cls:=.type "range",data:=.fields #[.int lo t,.int hi u,.int 1 v]}).objs.size:=by simpa using hb
    subst e
    exact I1.fpOk (Nn _) (I1.hok.fresh (Nn _))
def Ge(ta:TA):TI:=fun σ H R=>ta σ H fun vs H1=>∃j:Int,vs=[.int j]∧ -(2 ^ 62)≤j∧j < 2 ^ 62∧R (HE 0 j.toNat) H1
theorem xx{a:MU}{ta:TA}{p pos:Pos}(hg:Gl X "range")(hm:X.mg "range"=none)(ha:PA X [a] ta)(hs:Nf [a] X.env=[(false,Nh a X.env)]:=by rfl):PI X tg (.Call (.Name "range" p) [a] [] pos) (Ge ta):=by
  intro pins s σ H R I h
  refine Call_ (rc I hg hm boot_range (Rb (cw (ha pos pins s σ H _ I h) fun us s1 ⟨vs,H1,I1,r1,q1⟩=>?_) hs rfl))
  obtain⟨j,e,q1,q2,q⟩:=q1
  subst e
  cases r1 with
  | cons r rr=>
    cases rr
    obtain⟨t,rfl⟩:=r
    exact call_range_1 (zT I1 (by lia) (by lia) q1 q2 (by simpa using q))
def IW(wi:TI)(g:TG)(tb:TS):TS:=fun D σ H=>wi σ H fun J H1=>∃W:Nat→Nat→St→Hp→Prop,(∃m,W 0 m σ H1)∧∀i m σ H,W i m σ H→
  (J.stop i H∧D.nx σ H)∨(J.go i H∧∃N:St→Hp→Prop,(∀σ' H',N σ' H'→∃m',m' < m∧W (i+1) m' σ' H')∧∀x H',J.yld i H x H'→g x σ H' fun σ2 H2=>tb {D with nx:=N,ct:=N,bk:=D.nx} σ2 H2)
def oz(fp:List xM)(h:MY):List (xM × Obj):=fp.filterMap fun b=>(h.get? b).map fun o=>(b,o)
theorem iG{fp:List xM}{h:MY}{b:xM}{o:Obj}(hb:b∈fp)(e:h.get? b=some o):(b,o)∈oz fp h:=QD.mpr ⟨b,hb,by rw [e];rfl⟩
theorem xo{fp:List xM}{h:MY}{p:xM × Obj}(hp:p∈oz fp h):p.1∈fp∧h.get? p.1=some p.2:=by
  obtain⟨b,hb,e⟩:=QD.mp hp
  cases q:h.get? b with
  | none=>rw [q] at e;cases e
  | some o=>
    rw [q] at e
    have e':(b,o)=p:=Og e
    subst e'
    exact⟨hb,q⟩
theorem aC.pinned{pins:List (xM × Obj)}{σ:St}{H:Hp}{s:MP}{fp:List xM}(I:aC X pins σ H s)(hf:∀b∈fp,mZ X pins H b)(ho:∀b∈fp,∃o,s.heap.get? b=some o∧∀v,o.data≠.cell v):aC X (pins++oz fp s.heap) σ H s:=
  I.pins_of fun p hp=>(MO hp).elim (fun z=>I.pin p (OM _ z)) fun z=>by
    obtain⟨hb,e⟩:=xo z
    obtain⟨f0,f1,f2,_⟩:=hf p.1 hb
    obtain⟨o,e',d⟩:=ho p.1 hb
    rw [e] at e';cases e'
    exact⟨e,f0,f1,f2,d⟩
theorem aC.unpinned{pins pl:List (xM × Obj)}{σ:St}{H:Hp}{s:MP}(I:aC X (pins++pl) σ H s):aC X pins σ H s:=I.pins_of fun p hp=>I.pin p (OM _ (List.mem_append_left _ hp))
theorem zv{iter:MU}{body:List Na}{wi:TI}{g:TG}{tb:TS}{pos:Pos}(hp:PassesOwn (Ng X.prog X.w) X.A X.env X.xe)(hc:X.calm=true)(hi:PI X tg iter wi)(hg:PG X tg g)(hb:i0 X body tb)
    (hs:∀x,PB iter X.env x=pure x:=by intro _;rfl):PS X (.For tg iter body [] pos) (IW wi g tb):=by
  intro pins s σ H D I h
  refine wpAny_For (cw (hi pins s σ H _ I h) fun v s1 h1=>cw h1 fun itv s2 h2=>?_) hs
  obtain⟨it,fp,tn,J,H2,e,I2,T,st2,f2,W,⟨m0,w0⟩,turn⟩:=h2
  subst e
  have stat:∀{H':Hp},(∀b∈fp,H' b=none)→∀b∈fp,mZ X pins H' b:=fun hn b hb=>⟨hn b hb,(f2 b hb).2⟩
  refine codeAny_forLoop_any (fun n s'=>∃i σ' H',aC X pins σ' H' s'∧tn i s'.heap∧(∀b∈fp,H' b=none)∧W i n σ' H') ?_ m0 ⟨0,σ,H2,I2,st2,fun b hb=>(f2 b hb).1,w0⟩
  rintro n s3 ⟨i,σ3,H3,I3,st3,fr3,w3⟩
  rcases turn i n σ3 H3 w3 with ⟨stop,qn⟩ | ⟨go,N,hN,step⟩
  · refine Pk hp (cw (T.done X rfl rfl rfl hc i pins s3 σ3 H3 X.xe I3 (stat fr3) st3 stop) fun r s4 ⟨hr,I4⟩=>?_)
    subst hr
    exact Qf ⟨σ3,H3,I4,qn⟩
  · refine Pk hp (cw (T.item X rfl rfl rfl hc i pins s3 σ3 H3 X.xe I3 (stat fr3) st3 go) fun r s4 ⟨u,hr,h4⟩=>?_)
    subst hr
    refine Pk hp (cw h4 fun _ s5 ⟨x,H5,I5,r5,y5,st5,fr5⟩=>?_)
    have I5':=I5.pinned (stat fr5) (T.obj _ _ st5)
    refine Pk hp (cw (hg _ s5 σ3 H5 x u _ I5' r5 (step x H5 y5)) fun _ s6 ⟨σ6,H6,I6,q6⟩=>?_)
    refine Pk hp (cw (hb _ s6 σ6 H6 _ I6 q6) fun f s7 q7=>?_)
    have again:∀{σ7:St} {H7:Hp},aC X (pins++oz fp s5.heap) σ7 H7 s7→N σ7 H7→∃m,m < n∧∃i σ' H',aC X pins σ' H' s7∧tn i s7.heap∧(∀b∈fp,H' b=none)∧W i m σ' H':=fun{σ7 H7} I7 n7=>by
      obtain⟨m',hm,w7⟩:=hN σ7 H7 n7
      refine⟨m',hm,i+1,σ7,H7,I7.unpinned,T.keep _ _ _ st5 fun b hb o e=>(I7.pin (b,o) (OM _ (OM _ (iG hb e)))).1,fun b hb=>?_,w7⟩
      obtain⟨o,e,d⟩:=T.obj _ _ st5 b hb
      exact(I7.pin (b,o) (OM _ (OM _ (iG hb e)))).2.1
    cases f with
    | next=>obtain⟨σ7,H7,I7,n7⟩:=q7;exact again I7 n7
    | cont=>obtain⟨σ7,H7,I7,n7⟩:=q7;exact again I7 n7
    | brk=>obtain⟨σ7,H7,I7,q7⟩:=q7;exact⟨σ7,H7,I7.unpinned,q7⟩
    | ret v=>obtain⟨x7,σ7,H7,I7,r7,q7⟩:=q7;exact⟨x7,σ7,H7,I7.unpinned,r7,q7⟩
end
abbrev R2:=V→V→Hp→VK→Prop
def gf(X:Cx)(f:Kg→Kg→Sem Kg)(r:R2):Prop:=
  ∀(pins:List (xM × Obj)) (s:MP) (σ:St) (H:Hp) (x y:V) (v u:Kg) (Q:VK),aC X pins σ H s→bF x v→bF y u→r x y H Q→
    Nc (Ng X.prog X.w) X.A (f v u) (EP X pins σ Q) X.xe s
def HJ(X:Cx)(f:Kg→Sem Kg)(r:V→Hp→VK→Prop):Prop:=
  ∀(pins:List (xM × Obj)) (s:MP) (σ:St) (H:Hp) (x:V) (v:Kg) (Q:VK),aC X pins σ H s→bF x v→r x H Q→
    Nc (Ng X.prog X.w) X.A (f v) (EP X pins σ Q) X.xe s
def cM(X:Cx)(f:Kg)(r:List V→Hp→VK→Prop):Prop:=
  ∀(pins:List (xM × Obj)) (s:MP) (σ:St) (H:Hp) (xs:List V) (us:List Kg) (Q:VK),aC X pins σ H s→aP xs us→r xs H Q→
    Nc (Ng X.prog X.w) X.A (call f us) (EP X pins σ Q) X.xe s
def FQ(r:R2)(ta tb:TE):TE:=fun σ H Q=>ta σ H fun x H1=>tb σ H1 fun y H2=>r x y H2 Q
def JC(r:V→Hp→VK→Prop)(ta:TE):TE:=fun σ H Q=>ta σ H fun x H1=>r x H1 Q
def rI(C:Int→Int→Prop)(g:Int→Int→V):R2:=fun x y H Q=>∃i j,x=.int i∧y=.int j∧C i j∧Q (g i j) H
def xD(g:Int→Int→V):R2:=fun x y H Q=>∃i j,x=.int i∧y=.int j∧Q (g i j) H
def rU(g:Int→V):V→Hp→VK→Prop:=fun x H Q=>∃i,x=.int i∧Q (g i) H
section
variable{X:Cx}{a b c:MU}{ta tb tc:TE}{pos:Pos}
theorem Dp(ha:PE X a ta)(hb:PE X b tb){pins:List (xM × Obj)}{s:MP}{σ:St}{H:Hp}{R:V→V→Hp→Prop}(I:aC X pins σ H s)
    (h:ta σ H fun x H1=>tb σ H1 fun y H2=>R x y H2){Q:Kg→MP→Prop}{f:Kg→Kg→Sem Kg}
    (hf:∀v u s2 x y H2,aC X pins σ H2 s2→bF x v→bF y u→R x y H2→Nc (Ng X.prog X.w) X.A (f v u) Q X.xe s2):
    Nc (Ng X.prog X.w) X.A (Nh a X.env) (fun v s₁=>Nc (Ng X.prog X.w) X.A (Nh b X.env) (fun u s₂=>Nc (Ng X.prog X.w) X.A (f v u) Q X.xe s₂) X.xe s₁) X.xe s:=by
  refine cw (ha pins s σ H _ I h) fun v s1 ⟨x,H1,I1,r1,q1⟩=>?_
  refine cw (hb pins s1 σ H1 _ I1 q1) fun u s2 ⟨y,H2,I2,r2,q2⟩=>?_
  exact hf v u s2 x y H2 I2 r1 r2 q2
theorem CW{op:Operator}{r:R2}(ho:gf X (NM op) r)(ha:PE X a ta)(hb:PE X b tb):PE X (.BinOp a op b pos) (FQ r ta tb):=by
  intro pins s σ H Q I h
  exact wpAny_BinOp (Dp ha hb I h fun v u s2 x y H2 I2 rx ry q=>ho pins s2 σ H2 x y v u Q I2 rx ry q)
theorem GQ{op:UnaryOp}{r:V→Hp→VK→Prop}(ho:HJ X (unaryOp op) r)(ha:PE X a ta):PE X (.UnaryOp op a pos) (JC r ta):=by
  intro pins s σ H Q I h
  exact UnaryOp_ (cw (ha pins s σ H _ I h) fun v s1 ⟨x,H1,I1,r1,q1⟩=>ho pins s1 σ H1 x v Q I1 r1 q1)
theorem GK{f:Kg→Kg→Sem Kg}{C:Int→Int→Prop}{g:Int→Int→Int}
    (rule:∀(i j:Int) (t u:Tok) (s:MP) (Q:Kg→MP→Prop) (E:Kg→MP→Prop),C i j→Q (.int (g i j) s.toks) {s with toks:=s.toks+1}→Nc (Ng X.prog X.w) X.A (f (.int i t) (.int j u)) Q E s):
    gf X f (rI C fun i j=>.int (g i j)):=by
  intro pins s σ H x y v u Q I rx ry h
  obtain⟨i,j,rfl,rfl,hc,q⟩:=h
  obtain⟨t,rfl⟩:=rx
  obtain⟨t',rfl⟩:=ry
  exact rule i j t t' s _ _ hc ⟨.int (g i j),H,I.tok _,⟨_,rfl⟩,q⟩
theorem GL{f:Kg→Kg→Sem Kg}{g:Int→Int→Int}
    (rule:∀(i j:Int) (t u:Tok) (s:MP) (Q:Kg→MP→Prop) (E:Kg→MP→Prop),Q (.int (g i j) s.toks) {s with toks:=s.toks+1}→Nc (Ng X.prog X.w) X.A (f (.int i t) (.int j u)) Q E s):
    gf X f (xD fun i j=>.int (g i j)):=by
  intro pins s σ H x y v u Q I rx ry h
  obtain⟨i,j,rfl,rfl,q⟩:=h
  obtain⟨t,rfl⟩:=rx
  obtain⟨t',rfl⟩:=ry
  exact rule i j t t' s _ _ ⟨.int (g i j),H,I.tok _,⟨_,rfl⟩,q⟩
theorem Ep{f:Kg→Kg→Sem Kg}{g:Int→Int→Bool}
    (rule:∀(i j:Int) (t u:Tok) (s:MP) (Q:Kg→MP→Prop) (E:Kg→MP→Prop),Q (.bool (g i j)) s→Nc (Ng X.prog X.w) X.A (f (.int i t) (.int j u)) Q E s):
    gf X f (xD fun i j=>.bl (g i j)):=by
  intro pins s σ H x y v u Q I rx ry h
  obtain⟨i,j,rfl,rfl,q⟩:=h
  obtain⟨t,rfl⟩:=rx
  obtain⟨t',rfl⟩:=ry
  exact rule i j t t' s _ _ ⟨.bl (g i j),H,I,rfl,q⟩
def Dd(i j:Int):Prop:=0≤j∧j≤1000000∧i.natAbs < 2 ^ 64
def AC(i j:Int):Prop:=(-(2 ^ 64) < i∧i < 2 ^ 64)∨(-(2 ^ 64) < j∧j < 2 ^ 64)
theorem AC.ok{i j:Int}(h:AC i j):IntMulOk i j:=by
  rcases h with ⟨h1,h2⟩ | ⟨h1,h2⟩
  · exact .of_left (intBits_le_64 h1 h2)
  · exact .of_right (intBits_le_64 h1 h2)
theorem Er:gf X (NM .Add) (xD fun i j=>.int (i+j)):=GL fun _ _ _ _ _ _ _ q=>add_int q
theorem ED:gf X (NM .Sub) (xD fun i j=>.int (i - j)):=GL fun _ _ _ _ _ _ _ q=>sub_int q
theorem Ez:gf X (NM .Mult) (rI AC fun i j=>.int (i*j)):=GK fun _ _ _ _ _ _ _ hc q=>mul_int q hc.ok
theorem BB:gf X (NM .Mod) (rI (fun _ j=>j≠0) fun i j=>.int (i.fmod j)):=GK fun _ _ _ _ _ _ _ hc q=>mod_int' hc q
theorem EB:gf X (NM .Pow) (rI Dd fun i j=>.int (i ^ j.toNat)):=GK fun _ _ _ _ _ _ _ hc q=>pow_int_small hc.1 hc.2.1 hc.2.2 q
theorem J_{f:Kg→Sem Kg}{g:Int→Int}
    (rule:∀(i:Int) (t:Tok) (s:MP) (Q:Kg→MP→Prop) (E:Kg→MP→Prop),Q (.int (g i) s.toks) {s with toks:=s.toks+1}→Nc (Ng X.prog X.w) X.A (f (.int i t)) Q E s):
    HJ X f (rU fun i=>.int (g i)):=by
  intro pins s σ H x v Q I rx h
  obtain⟨i,rfl,q⟩:=h
  obtain⟨t,rfl⟩:=rx
  exact rule i t s _ _ ⟨.int (g i),H,I.tok _,⟨_,rfl⟩,q⟩
theorem Fv:HJ X (unaryOp .USub) (rU fun i=>.int (-i)):=J_ fun _ _ _ _ _ q=>neg_int q
end
section
variable{X:Cx}{a b c:MU}{ta tb tc:TE}{pos:Pos}
theorem yj{pins:List (xM × Obj)}{σ:St}{H:Hp}{s:MP}{Q:VK}{k k':Bool}(I:aC X pins σ H s)(q:Q (.bl k) H)(e:k=k'):EP X pins σ Q (.bool k') s:=by
  subst e
  exact⟨.bl k,H,I,rfl,q⟩
theorem GO:gf X (NO .Lt) (xD fun i j=>.bl (decide (i < j))):=Ep fun _ _ _ _ _ _ _ q=>lt_int q
theorem GN:gf X (NO .Gt) (xD fun i j=>.bl (decide (j < i))):=Ep fun _ _ _ _ _ _ _ q=>gt_int q
theorem GM:gf X (NO .GtE) (xD fun i j=>.bl (decide (j≤i))):=Ep fun _ _ _ _ _ _ _ q=>ge_int q
theorem Ey:gf X (NO .Is) (fun x y H Q=>y=.non∧Q (.bl (decide (x=.non))) H):=by
  intro pins s σ H x y v u Q I rx ry h
  obtain⟨rfl,q⟩:=h
  cases ry
  refine is_none_gen (yj I q ?_)
  cases x<;>first
    | (cases rx;rfl)
    | (obtain⟨t,rfl⟩:=rx;rfl)
theorem BF:gf X (NO .IsNot) (fun x y H Q=>y=.non∧Q (.bl (!decide (x=.non))) H):=by
  intro pins s σ H x y v u Q I rx ry h
  obtain⟨rfl,q⟩:=h
  cases ry
  refine isnot_none_gen (yj I q ?_)
  cases x<;>first
    | (cases rx;rfl)
    | (obtain⟨t,rfl⟩:=rx;rfl)
theorem gf.or{f:Kg→Kg→Sem Kg}{r r':R2}(h:gf X f r)(h':gf X f r'):gf X f (fun x y H Q=>r x y H Q∨r' x y H Q):=by
  intro pins s σ H x y v u Q I rx ry q
  rcases q with q | q
  · exact h pins s σ H x y v u Q I rx ry q
  · exact h' pins s σ H x y v u Q I rx ry q
theorem az(b:MU){op:CmpOp}(h:op≠.In:=by decide)(h2:op≠.NotIn:=by decide):Ov op b=false:=by
  have e1:(op==CmpOp.In)=false:=by cases op<;>first | rfl | exact absurd rfl h
  have e2:(op==CmpOp.NotIn)=false:=by cases op<;>first | rfl | exact absurd rfl h2
  cases b<;>simp [Ov,e1,e2]
theorem BJ{op:CmpOp}{r:R2}(ho:gf X (NO op) r)(ha:PE X a ta)(hb:PE X b tb)(hm:Ov op b=false):PE X (.Compare a [op] [b] pos) (FQ r ta tb):=by
  intro pins s σ H Q I h
  exact wpAny_Compare1 (Dp ha hb I h fun v u s2 x y H2 I2 rx ry q=>ho pins s2 σ H2 x y v u Q I2 rx ry q) hm
def Hr(t:TE):TT:=fun σ H Q=>t σ H fun x H'=>∃k,x=.bl k∧Q k H'
theorem vT{op:CmpOp}{r:R2}(ho:gf X (NO op) r)(ha:PE X a ta)(hb:PE X b tb)(hm:Ov op b=false):PT X (.Compare a [op] [b] pos) (Hr (FQ r ta tb)):=by
  intro pins s σ H Q I h
  refine wpAny_isTrue_Compare1 (cw (ha pins s σ H _ I h) fun v s1 ⟨x,H1,I1,r1,q1⟩=>cw (hb pins s1 σ H1 _ I1 q1) fun u s2 ⟨y,H2,I2,r2,q2⟩=>
    cw (ho pins s2 σ H2 x y v u _ I2 r1 r2 q2) fun c s3 ⟨z,H3,I3,r3,k,e,q3⟩=>?_) hm
  subst e
  cases r3
  exact PM ⟨H3,I3,q3⟩
theorem uJ:(Nl:Nat) < 2 ^ 63:=by rw [NU];decide
theorem qA{x:V}{us:List Kg}(r:aP [x] us):∃u,us=[u]∧bF x u:=by
  cases r with
  | cons r1 r2=>cases r2;exact⟨_,rfl,r1⟩
theorem C'{x y:V}{us:List Kg}(r:aP [x,y] us):∃u w',us=[u,w']∧bF x u∧bF y w':=by
  cases r with
  | cons r1 r2=>
    cases r2 with
    | cons r3 r4=>cases r4;exact⟨_,_,rfl,r1,r3⟩
theorem x9:cM X (.builtin "abs") (fun xs H Q=>∃i,xs=[.int i]∧Q (.int (if i < 0 then -i else i)) H):=by
  intro pins s σ H xs us Q I r h
  obtain⟨i,rfl,q⟩:=h
  obtain⟨u,rfl,t,rfl⟩:=qA r
  exact call_abs_int fun u tk=>⟨.int (if i < 0 then -i else i),H,I.tok _,⟨_,rfl⟩,q⟩
theorem wN(hc:X.calm=true):cM X (.builtin "max") (fun xs H Q=>∃i j,xs=[.int i,.int j]∧Q (.int (if j > i then j else i)) H):=by
  intro pins s σ H xs us Q I r h
  obtain⟨i,j,rfl,q⟩:=h
  obtain⟨u,w',rfl,⟨t,rfl⟩,⟨t',rfl⟩⟩:=C' r
  refine max_two_ints (I.ok.hd hc) fun h' tk k=>⟨_,H,I.kept k,?_,q⟩
  by_cases hj:j > i
  · rw [if_pos hj,if_pos hj];exact⟨_,rfl⟩
  · rw [if_neg hj,if_neg hj];exact⟨_,rfl⟩
theorem wQ(hc:X.calm=true):cM X (.builtin "min") (fun xs H Q=>∃i j,xs=[.int i,.int j]∧Q (.int (if j < i then j else i)) H):=by
  intro pins s σ H xs us Q I r h
  obtain⟨i,j,rfl,q⟩:=h
  obtain⟨u,w',rfl,⟨t,rfl⟩,⟨t',rfl⟩⟩:=C' r
  refine min_two_ints (I.ok.hd hc) fun h' tk k=>⟨_,H,I.kept k,?_,q⟩
  by_cases hj:j < i
  · rw [if_pos hj,if_pos hj];exact⟨_,rfl⟩
  · rw [if_neg hj,if_neg hj];exact⟨_,rfl⟩
theorem wM:cM X (.type "int") (fun xs H Q=>(∃i,xs=[.int i]∧Q (.int i) H)∨∃k,xs=[.bl k]∧Q (.int (if k then 1 else 0)) H):=by
  intro pins s σ H xs us Q I r h
  rcases h with ⟨i,rfl,q⟩ | ⟨k,rfl,q⟩
  · obtain⟨u,rfl,t,rfl⟩:=qA r
    exact call_int_int ⟨.int i,H,I,⟨_,rfl⟩,q⟩
  · obtain⟨u,rfl,r1⟩:=qA r
    cases r1
    exact call_int_bool ⟨.int (if k then 1 else 0),H,I.tok _,⟨_,rfl⟩,q⟩
end
structure ul (h:MY) (x dx C:xM) (mA:Str→Option Kg):Prop where
  obj:h.get? x=some (OW C dx)
  ns:h.Ns1 dx mA
  ne:dx≠x
theorem xk{h:MY}{dx:xM}{mA:Str→Option Kg}(n:h.Ns1 dx mA):∃od,h.get? dx=some od∧∀name,Qh name od=some (mA name):=by
  obtain⟨o,es,ep,ho,hd,hk,_,hm⟩:=n
  refine⟨o,ho,fun name=>?_⟩
  have e:=hm name
  unfold nsFind findBy at e
  rw [←Array.find?_toList] at e
  unfold Qh
  rw [hd]
  dsimp only
  split
  · rename_i y q
    rw [q] at e
    exact congrArg some e
  · rename_i q
    rw [q] at e
    have a:es.toList.any (·.refKey)=false:=by
      rw [List.any_eq_false]
      intro y hy
      obtain⟨z,t,hkey⟩:=hk y (Array.mem_toList_iff.mp hy)
      simp [DictEntry.refKey,hkey]
    have a':¬es.toList.any (·.refKey)=true:=by rw [a];exact Pl
    rw [if_neg a']
    exact congrArg some e
theorem ul.look{h:MY}{x dx C:xM}{mA:Str→Option Kg}(I:ul h x dx C mA):∃od,PySem.W.InstAt h x (OW C dx) C (some od)∧∀name,Qh name od=some (mA name):=
  let ⟨od,ho,hl⟩:=xk I.ns
  ⟨od,⟨I.obj,rfl,rfl,ho⟩,hl⟩
section
variable{prog:MZ}{w:MV}{A:Nb}{E:Kg→MP→Prop}{s:MP}{K:MS}{x dx C f:xM}{mA:Str→Option Kg}{name:Str}{v:Kg}
theorem AX{expr:Bool}{Q:Kg→MP→Prop}(X:K.In s.heap)(I:ul s.heap x dx C mA)(hg:Qi K C name=true)(hh:QG K C=true)
    (ha:Oq K (.ref C) name=some none)(hv:mA name=some v)(hv':PySem.W.handedIn v=true)(h:Q v {s with toks:=s.toks+1}):
    Nc (Ng prog w) A (getAttr (.ref x) name expr) Q E s:=by
  obtain⟨od,J,hl⟩:=I.look
  exact PySem.W.get_value X J (QH hg).1 (PySem.W.findObj_own hh ha rfl (by rw [hl,hv])) hv' h
theorem yx{pl:Sem Bool}{Q:Kg × List Kg→MP→Prop}(X:K.In s.heap)(I:ul s.heap x dx C mA)(hg:Qi K C name=true)
    (hf:Oq K (.ref C) name=some (some (.ref f)))(ht:PySem.W.isFn K (.ref f)=true)(hv:mA name=none)(h:Q (.ref f,[.ref x]) s):
    Nc (Ng prog w) A (getMethod (.ref x) name pl) Q E s:=by
  obtain⟨od,J,hl⟩:=I.look
  exact PySem.W.method_fn X J (QH hg).1 (QH hg).2 hf (beq_iff_eq.mp ht) (by show(Qh name od).map (·.isSome)=some false;rw [hl,hv];rfl) h
theorem B6{ns:List Str}{Q:Unit→MP→Prop}(X:K.In s.heap)(I:ul s.heap x dx C mA)
    (hs:Oq K (.ref C) "__setattr__"=some (some (.builtin "object.__setattr__")))(hp:PySem.W.plainOver K C=true)(ht:PySem.W.takerIn K C name=some none)(hh:QG K C=true)
    (hw:PySem.Within mA ns)(hsz:ns.length≤Nl)
    (h:∀h',ul h' x dx C (fun y=>if y=name then some v else mA y)→Pz dx s.heap h'→Q () {s with heap:=h',toks:=s.toks+2}):
    Nc (Ng prog w) A (setAttr (.ref x) name v) Q E s:=by
  obtain⟨od,J,hl⟩:=I.look
  refine PySem.W.set_plain X J hs (PySem.W.osa_open (s:={s with toks:=s.toks+1}) (r:=none) X J hp ht fun b=>?_)
  obtain⟨cd,hc,hd'⟩:=PySem.W.any_some hh
  have hx:s.heap.get? x=some ⟨.ref C,some dx,.plain,#[]⟩:=I.obj
  refine Ni (Nm (Ni (Ni (wpAny_loadPart hx (Ni (PySem.W.Looks.here (s:={s with toks:=s.toks+1}) (PySem.W.looks_clsIn X hc) ?_))))))
  rw [hd']
  refine Nm (a:=some dx) (Ni (Nm (Ni ?_)))
  refine wpAny_nsSet1 (s:={s with toks:=s.toks+1}) I.ns fun h' hn2 hs2=>?_
  obtain⟨oD,esD,epD,hoD,hdD,hcD⟩:=hn2.count (PySem.Within.cons name v hw)
  refine Ni (wpAny_lookBehind hoD (by rw [hdD];exact pastItsLine_dict (NG hcD (by rw [OU];lia))) ?_)
  exact Nm (h _ ⟨(hs2.2 _ (Ny I.ne)).trans I.obj,hn2,I.ne⟩ hs2)
theorem yN{R:Result→MP→Prop}{vs:List Kg}{kw:List (Str × Kg)}(X:K.In s.heap)(hm:PySem.W.makesIn K C=true)
    (hi:Oq K (.ref C) "__init__"=some (some (.ref f)))(hf:PySem.W.typeIn K (.ref f)=some (.type "function"))
    (h:codeAny (Ng prog w) (A.under (.builtin "type.__call__" ⟨.ref C::vs,kw⟩)) (.call (.ref f) ⟨.ref (s.heap.objs.size+1)::vs,kw⟩) (PySem.W.InitBack (s.heap.objs.size+1) R)
      {s with heap:=(s.heap.push OV).push (OW C s.heap.objs.size)}):
    codeAny (Ng prog w) A (.call (.ref C) ⟨vs,kw⟩) R s:=by
  obtain⟨hh,g,d,t,os⟩:=s
  exact PySem.W.make_core (PySem.W.makes_of X hm) (PySem.W.looks_findIn X hi) (fun self=>PySem.W.bind_fn X self hf) (.inl rfl) h
end
def gX(f:Str)(v:V):List (Str × V)→List (Str × V)
  | []=>[(f,v)]
  | (g,x)::r=>if g=f then(g,v)::r else(g,x)::gX f v r
theorem mh(f g:Str)(v:V):∀fs:List (Str × V),(gX f v fs).lookup g=if g=f then some v else fs.lookup g
  | []=>by
    show NJ g [(f,v)]=_
    by_cases h:g=f
    · have hb:(g==f)=true:=beq_iff_eq.mpr h
      simp only [NJ,hb,if_pos h]
    · have hb:(g==f)=false:=beq_eq_false_iff_ne.mpr h
      simp only [NJ,hb,if_neg h]
  | (k,x)::r=>by
    have ih:=mh f g v r
    rw [show gX f v ((k,x)::r)=(if k=f then(k,v)::r else(k,x)::gX f v r) from rfl]
    by_cases hk:k=f
    · rw [if_pos hk]
      by_cases h:g=k
      · have hb:(g==k)=true:=beq_iff_eq.mpr h
        simp only [NJ,hb,if_pos (h.trans hk)]
      · have hb:(g==k)=false:=beq_eq_false_iff_ne.mpr h
        simp only [NJ,hb,if_neg (fun e:g=f=>h (e.trans hk.symm))]
    · rw [if_neg hk]
      by_cases h:g=k
      · have hb:(g==k)=true:=beq_iff_eq.mpr h
        simp only [NJ,hb,if_neg (fun e:g=f=>hk (h.symm.trans e))]
      · have hb:(g==k)=false:=beq_eq_false_iff_ne.mpr h
        simp only [NJ,hb]
        exact ih
theorem lH(f:Str)(v:V):∀fs:List (Str × V),f∈(gX f v fs).map (·.1)∧∀g,g∈fs.map (·.1)→g∈(gX f v fs).map (·.1)
  | []=>⟨by simp [gX],fun g h=>by simp at h⟩
  | (k,x)::r=>by
    obtain⟨i1,i2⟩:=lH f v r
    rw [show gX f v ((k,x)::r)=(if k=f then(k,v)::r else(k,x)::gX f v r) from rfl]
    by_cases hk:k=f
    · rw [if_pos hk]
      subst hk
      exact⟨by simp,fun g h=>by simpa using h⟩
    · rw [if_neg hk]
      refine⟨?_,fun g h=>?_⟩
      · rw [ND]
        exact Om _ i1
      · rw [ND] at h ⊢
        rcases MQ h with e | e
        · exact Oz.mpr (.inl e)
        · exact Om _ (i2 g e)
theorem mf(f:Str)(v:V):∀fs:List (Str × V),(gX f v fs).length≤fs.length+1
  | []=>by simp [gX]
  | (k,x)::r=>by
    have ih:=mf f v r
    rw [show gX f v ((k,x)::r)=(if k=f then(k,v)::r else(k,x)::gX f v r) from rfl]
    by_cases hk:k=f
    · rw [if_pos hk,OU,OU];lia
    · rw [if_neg hk,OU,OU];lia
theorem pk.some_of{v:V}{o:Option Kg}(r:pk (some v) o):∃u,o=some u∧bF v u:=by
  cases o with
  | none=>exact(show False from r).elim
  | some u=>exact⟨u,rfl,r⟩
theorem pk.none_of{o:Option Kg}(r:pk none o):o=none:=by
  cases o with
  | none=>rfl
  | some u=>exact(show False from r).elim
theorem xc{v:V}{u:Kg}(r:bF v u):PySem.W.handedIn u=true:=by
  cases v with
  | non=>cases (show u=Value.none from r);rfl
  | bl b=>cases (show u=Value.bool b from r);rfl
  | int i=>obtain⟨t,e⟩:=(show ∃t,u=Value.int i t from r);cases e;rfl
  | str x=>obtain⟨t,e⟩:=(show ∃t,u=Value.str x t from r);cases e;rfl
  | byt b=>obtain⟨t,e⟩:=(show ∃t,u=Value.bytes b t from r);cases e;rfl
  | flt b=>obtain⟨t,e⟩:=(show ∃t,u=Value.float b t from r);cases e;rfl
  | ref a=>cases (show u=Value.ref a from r);rfl
  | ty n=>cases (show u=Value.type n from r);rfl
section
variable{P:MZ}{w:MV}{H H':Hp}{h h':MY}{a C dx:xM}{fs fs':List (Str × V)}
theorem qX(hok:mF P w H h)(e:H a=some (.ins C dx fs)):∃mA,ul h a dx C mA∧(∀f,pk (fs.lookup f) (mA f))∧PySem.Within mA (fs.map (·.1))∧fs.length≤1000∧H dx=some (.own a):=by
  obtain⟨d,z,ne,ob,mA,n,r,q⟩:=(show eM P w H h a (.ins C dx fs) from hok a _ e)
  exact⟨mA,⟨ob,n,ne⟩,r,q,z,d⟩
end
structure ph (K:MS) (C:xM):Prop where
  pg:Qi K C Pm=true
  hd:QG K C=true
  po:PySem.W.plainOver K C=true
  sa:Oq K (.ref C) "__setattr__"=some (some (.builtin "object.__setattr__"))
theorem ph.get{K:MS}{C:xM}(c:ph K C)(f:Str):Qi K C f=true:=c.pg
def bB(K:MS)(C:xM)(f:Str):Prop:=Oq K (.ref C) f=some none
theorem bB.taker{K:MS}{C:xM}{f:Str}(n:bB K C f):PySem.W.takerIn K C f=some none:=by
  unfold PySem.W.takerIn
  rw [show Oq K (.ref C) f=some none from n]
  rfl
structure Ka (K:MS) (C:xM) (f:Str) (v:V) (u:Kg):Prop where
  at_:Oq K (.ref C) f=some (some u)
  rel:bF v u
  get:PySem.W.specialIn K u "__get__"=some none
  cp:PySem.W.copiedNames.contains f=false
structure ly (K:MS) (C:xM) (m:Str) (f:xM):Prop where
  at_:Oq K (.ref C) m=some (some (.ref f))
  fn:PySem.W.isFn K (.ref f)=true
  kp:OY K (.ref f)=true
section
variable{X:Cx}{pins:List (xM × Obj)}{σ:St}{H:Hp}{s:MP}{a C dx:xM}{fs:List (Str × V)}{f:Str}{v:V}{A:Nb}{E:Kg→MP→Prop}
theorem uC{b:Bool}{Q:Kg→MP→Prop}(I:aC X pins σ H s)(e:H a=some (.ins C dx fs))(c:ph X.K C)(n:bB X.K C f)(l:fs.lookup f=some v)
    (h:∀u s',aC X pins σ H s'→bF v u→Q u s'):Nc (Ng X.prog X.w) A (getAttr (.ref a) f b) Q E s:=by
  obtain⟨mA,O,r,_,_,_⟩:=qX I.hok e
  obtain⟨u,hu,ru⟩:=pk.some_of (v:=v) (o:=mA f) (by rw [←l];exact r f)
  exact AX I.kIn O (c.get f) c.hd n hu (xc ru) (h u _ (I.tok _) ru)
theorem nU{m:Str}{g:xM}{pl:Sem Bool}{Q:Kg × List Kg→MP→Prop}(I:aC X pins σ H s)(e:H a=some (.ins C dx fs))(c:ph X.K C)(k:ly X.K C m g)(l:fs.lookup m=none)
    (h:Q (.ref g,[.ref a]) s):Nc (Ng X.prog X.w) A (getMethod (.ref a) m pl) Q E s:=by
  obtain⟨mA,O,r,_,_,_⟩:=qX I.hok e
  have hn:mA m=none:=pk.none_of (by rw [←l];exact r m)
  exact yx I.kIn O (c.get m) k.at_ k.fn hn h
theorem u7{y:V}{u:Kg}{Q:Unit→MP→Prop}(I:aC X pins σ H s)(e:H a=some (.ins C dx fs))(c:ph X.K C)(n:bB X.K C f)(hl:fs.length < 1000)(ry:bF y u)
    (h:∀s',aC X pins σ (bv H a (.ins C dx (gX f y fs))) s'→Q () s'):Nc (Ng X.prog X.w) A (setAttr (.ref a) f u) Q E s:=by
  obtain⟨mA,O,r,wi,_,ho⟩:=qX I.hok e
  have hz:(fs.map (·.1)).length≤Nl:=by rw [NC,NU];lia
  refine B6 I.kIn O c.sa c.po n.taker c.hd wi hz fun h' O' sb=>h _ ?_
  have hd:∃o,h'.get? dx=some o:=let ⟨o,_,_,e',_⟩:=O'.ns;⟨o,e'⟩
  refine I.write (x:=a) (e:=dx) (by rw [e];exact PD) (.inr ho) (fun b q hb z=>(sb.2 b hb).trans z) hd ?_
  refine⟨by rw [ar O.ne];exact ho,?_,O.ne,O'.obj,_,O'.ns,fun g=>?_,fun g hg=>?_⟩
  · have:=mf f y fs;lia
  · show pk ((gX f y fs).lookup g) (if g=f then some u else mA g)
    rw [mh]
    by_cases q:g=f
    · rw [if_pos q,if_pos q];exact ry
    · rw [if_neg q,if_neg q];exact r g
  · by_cases q:g=f
    · rw [q];exact(lH f y fs).1
    · refine(lH f y fs).2 g (wi g fun z=>hg ?_)
      show(if g=f then some u else mA g)=none
      rw [if_neg q];exact z
theorem aC.made(I:aC X pins σ H s):aC X pins σ (bv (bv H s.heap.objs.size (.own (s.heap.objs.size+1))) (s.heap.objs.size+1) (.ins C s.heap.objs.size []))
    {s with heap:=(s.heap.push OV).push (OW C s.heap.objs.size)}:=by
  have e1:(s.heap.push OV).get? s.heap.objs.size=some OV:=Oa s.heap rfl
  have e2:((s.heap.push OV).push (OW C s.heap.objs.size)).get? (s.heap.objs.size+1)=some (OW C s.heap.objs.size):=by
    have:=Oa (s.heap.push OV) (o:=OW C s.heap.objs.size) rfl
    rwa [PQ] at this
  have e3:(s.heap.push OV).Ns s.heap.objs.size (fun _=>none):=⟨OV,#[],_,e1,rfl,(fun e he=>absurd he (by simp)),fun _=>rfl⟩
  have I1:=I.laid (a:=s.heap.objs.size) (o:=.own (s.heap.objs.size+1)) (h':=s.heap.push OV) (t':=s.toks) (fun b u q=>NH _ q) (Nn _) ⟨_,e1⟩
  refine I1.laid (a:=s.heap.objs.size+1) (o:=.ins C s.heap.objs.size []) (t':=s.toks) (fun b u q=>NH _ q) (Nat.le_of_eq (PQ _ _)) ?_
  have ne:s.heap.objs.size≠s.heap.objs.size+1:=Oc (Nat.lt_succ_self _)
  refine⟨by rw [ar ne,aq],ON _,ne,e2,fun _=>none,(Heap.Ns1.of_empty e3).at fun o q=>NH _ q,fun _=>PD,fun y hy=>absurd rfl hy⟩
theorem AH{prog:MZ}{w:MV}{env:Env}{e:MU}{f:Str}{pos:Pos}{s:MP}{Q:Kg→MP→Prop}(hb:Oh e f env (Nh e env)=Nh e env)
    (h:Nc (Ng prog w) A (Nh e env) (fun o s₁=>Nc (Ng prog w) A (getAttr o f true) Q E s₁) E s):Nc (Ng prog w) A (Nh (.Attribute e f pos) env) Q E s:=
  Attribute_any_ h (by rw [arm_eval_Attribute,hb])
end
def IV(K:MS)(ta:TE)(f:Str):TE:=fun σ H Q=>ta σ H fun x H1=>∃a C dx fs v,x=.ref a∧H1 a=some (.ins C dx fs)∧ph K C∧bB K C f∧fs.lookup f=some v∧Q v H1
def IR(K:MS)(ta tv:TE)(f:Str):TS:=fun D σ H=>tv σ H fun y H1=>ta σ H1 fun x H2=>∃a C dx fs,x=.ref a∧H2 a=some (.ins C dx fs)∧ph K C∧bB K C f∧fs.length < 1000∧
  D.nx σ (bv H2 a (.ins C dx (gX f y fs)))
section
variable{X:Cx}{o e value:MU}{f:Str}{pos pos' tpos:Pos}{ta tv:TE}
theorem EG(he:PE X e ta)(hb:Oh e f X.env (Nh e X.env)=Nh e X.env):PE X (.Attribute e f pos) (IV X.K ta f):=by
  intro pins s σ H Q I h
  refine AH hb (cw (he pins s σ H _ I h) fun u s1 ⟨x,H1,I1,rx,a,C,dx,fs,v,ex,ea,c,n,l,q⟩=>?_)
  subst ex
  obtain rfl:u=Value.ref a:=rx
  exact uC I1 ea c n l fun u' s2 I2 ru=>⟨v,H1,I2,ru,q⟩
theorem EM(ha:PE X o ta)(hv:PE X value tv)(hs:OT value (some (.Attribute o f pos')) pos.line X.env=pure false):PS X (.Assign [.Attribute o f pos'] value pos) (IR X.K ta tv f):=by
  intro pins s σ H D I h
  refine plainObj_wpAny_Assign_Attribute (cw (hv pins s σ H _ I h) fun u s1 ⟨y,H1,I1,ry,q⟩=>cw (ha pins s1 σ H1 _ I1 q) fun ov s2 ⟨x,H2,I2,rx,a,C,dx,fs,ex,ea,c,n,l,q2⟩=>?_) hs
  subst ex
  obtain rfl:ov=Value.ref a:=rx
  exact u7 I2 ea c n l ry fun s3 I3=>⟨σ,_,I3,q2⟩
end
section
variable{X:Cx}{pins:List (xM × Obj)}{σ:St}{H:Hp}{s:MP}{A:Nb}{E:Kg→MP→Prop}{Q:Kg→MP→Prop}{c:Kg}{b:Bool}
inductive m5 (K:MS) (H:Hp):V→Kg→Prop where
  | non:m5 K H .non (.type "NoneType")
  | bl (x:Bool):m5 K H (.bl x) (.type "bool")
  | int (i:Int):m5 K H (.int i) (.type "int")
  | str (x:Str):m5 K H (.str x) (.type "str")
  | flt (x:UInt64):m5 K H (.flt x) (.type "float")
  | lst {a:xM} {xs:List V} (e:H a=some (.lst xs)):m5 K H (.ref a) (.type "list")
  | frz {a:xM} {o:Obj} {xs:List V} (e:H a=some (.frz o (.lst xs))):m5 K H (.ref a) (.type "list")
  | tup {a:xM} {xs:List V} (e:H a=some (.tup xs)):m5 K H (.ref a) (.type "tuple")
  | dK {a:xM} {kvs:List (iZ × V)} (e:H a=some (.dK kvs)):m5 K H (.ref a) (.type "dict")
  | dT {a:xM} {kvs:List (List iZ × V)} (e:H a=some (.dT kvs)):m5 K H (.ref a) (.type "dict")
  | ins {a C dx:xM} {fs:List (Str × V)} (e:H a=some (.ins C dx fs)) (cl:ph K C) (ha:Oq K (.ref C) "__class__"=some (some (.builtin "object.__class__")))
      (hn:PySem.W.specialIn K (.builtin "object.__class__") "__get__"=some (some (.builtin "getset_descriptor.__get__"))) (htk:PySem.W.takesIn K (.builtin "object.__class__")=some true)
      (hm:PySem.W.mroIn K C (.type "object")=some true):m5 K H (.ref a) (.ref C)
end
structure bI (k:Nat) (A:Nb):Prop where
  hd:A.handled=none
  dp:A.depth+3*k+5 < recursionLimit
  un:A.units+16*k+200 < cLine
  gd:A.guards=some []
theorem bI.mono{j k:Nat}{A:Nb}(r:bI k A)(h:j≤k):bI j A:=⟨r.hd,by have:=r.dp;lia,by have:=r.un;lia,r.gd⟩
theorem bI.deeper{k:Nat}{A:Nb}(r:bI (k+1) A)(env:Env):bI k (A.deeper env):=
  ⟨r.hd,by have:=r.dp;show A.depth+1+3*k+5 < _;lia,by have:=r.un;show A.units+3+16*k+200 < _;lia,r.gd⟩
theorem uM{A:Nb}{C:xM}{us:List Kg}{kw:List (Str × Kg)}:(A.under (.builtin "type.__call__" ⟨.ref C::us,kw⟩)).depth=A.depth+1:=by
  first | rfl | simp [Qj,Code.weight,Code.isCreation,Code.isGuard,Code.isCaller,Code.frames,Code.isFrame,guardIds]
theorem uO{A:Nb}{C:xM}{us:List Kg}{kw:List (Str × Kg)}:(A.under (.builtin "type.__call__" ⟨.ref C::us,kw⟩)).units=A.units+1:=by
  first | rfl | simp [Qj,Code.cUnits,Code.frames,Code.isFrame]
theorem bI.make{k:Nat}{A:Nb}(r:bI (k+1) A)(C:xM)(us:List Kg)(kw:List (Str × Kg)):bI k (A.under (.builtin "type.__call__" ⟨.ref C::us,kw⟩)):=
  ⟨r.hd,by have:=r.dp;rw [uM];lia,by have:=r.un;rw [uO];lia,by first | exact r.gd | simpa [Qj,Code.isGuard,guardIds] using r.gd⟩
theorem bI.depth{k:Nat}{A:Nb}(r:bI k A):A.depth < recursionLimit:=by have:=r.dp;lia
theorem bI.units{k:Nat}{A:Nb}(r:bI k A):A.units+64 < cLine:=by have:=r.un;lia
def Af:TA:=fun _ H Q=>Q [] H
def mz(ta:TE)(tr:TA):TA:=fun σ H Q=>ta σ H fun x H1=>tr σ H1 fun xs H2=>Q (x::xs) H2
section
variable{X:Cx}{e:MU}{es:List MU}{te:TE}{t:TA}{pos:Pos}
theorem fP:PA X [] Af:=fun _ _ _ _ H Q I h=>Calls.spliced_nil ⟨[],H,I,.nil,h⟩
theorem kR(ha:PE X e te)(hr:PA X es t)(hs:Nf (e::es) X.env=(false,Nh e X.env)::Nf es X.env:=by rfl):PA X (e::es) (mz te t):=by
  intro pos pins s σ H Q I h
  rw [hs]
  show Nc _ _ (spliced ((false,Nh e X.env)::Nr pos (Nf es X.env))) _ _ s
  refine Calls.spliced_cons (cw (ha pins s σ H _ I h) fun u s1 ⟨x,H1,I1,r1,q1⟩=>?_)
  exact cw (hr pos pins s1 σ H1 _ I1 q1) fun us s2 ⟨xs,H2,I2,r2,q2⟩=>⟨x::xs,H2,I2,.cons r1 r2,q2⟩
def Hs(t:TA):TE:=fun σ H Q=>t σ H fun xs H1=>xs.length≤Nl∧∀p,H1 p=none→Q (.ref p) (bv H1 p (.tup xs))
def Hl(t:TA):TE:=fun σ H Q=>t σ H fun xs H1=>xs.length≤Nl∧∀p,H1 p=none→Q (.ref p) (bv H1 p (.lst xs))
theorem zm{x1}(h:PA X es t):PE X (.Tuple es x1 pos) (Hs t):=by
  intro pins s σ H Q I hq
  refine wpAny_Tuple_spliced (cw (h pos pins s σ H _ I hq) fun us s1 ⟨xs,H1,I1,r,z,q⟩=>⟨by rw [←r.length];exact z,?_⟩)
  have hf:H1 s1.heap.objs.size=none:=I1.hok.fresh (Nn _)
  refine⟨.ref s1.heap.objs.size,bv H1 s1.heap.objs.size (.tup xs),I1.laid (t':=s1.toks) (fun b u e=>NH _ e) (Nn _) ?_,rfl,q _ hf⟩
  exact⟨z,us,r,⟨_,Oa _ rfl,rfl,_,rfl,rfl⟩⟩
theorem rB(h:PA X es t):PE X (.List es pos) (Hl t):=by
  intro pins s σ H Q I hq
  refine wpAny_List_spliced (cw (h pos pins s σ H _ I hq) fun us s1 ⟨xs,H1,I1,r,z,q⟩=>⟨by rw [←r.length];exact z,?_⟩)
  have hf:H1 s1.heap.objs.size=none:=I1.hok.fresh (Nn _)
  refine⟨.ref s1.heap.objs.size,bv H1 s1.heap.objs.size (.lst xs),I1.laid (t':=s1.toks) (fun b u e=>NH _ e) (Nn _) ?_,rfl,q _ hf⟩
  exact⟨z,us,0,r,Oa _ rfl⟩
end
abbrev Sp:=List V→Hp→VK→XK→Prop
abbrev rX:=List Env→Hp→MP→XK→Kg→MP→Prop
structure uk (P:MZ) (w:MV) (K:MS) (mg:Str→Option Kg) (base:MY) (A:Nb) (outer:List Env) (s:MP) (H:Hp):Prop where
  frames:A.frames=some outer
  mod:Mod K mg base
  bs:∀b o,base.get? b=some o→s.heap.get? b=some o∧H b=none
  bsz:base.objs.size≤s.heap.objs.size
  funs:s.heap.FunFrames base outer
  frf:∀b∈yk outer,H b=none
  hok:mF P w H s.heap
  bare:AllBare s.gens
def CE(outer:List Env)(P:MZ)(w:MV)(H:Hp)(s:MP)(Q:VK)(u:Kg)(s':MP):Prop:=
  ∃v H',s'.os=s.os∧AllBare s'.gens∧Un (yk outer) [] H H' s.heap s'.heap∧mF P w H' s'.heap∧bF v u∧Q v H'
def CR(CX:rX)(outer:List Env)(P:MZ)(w:MV)(H:Hp)(s:MP)(Q:VK)(E:XK)(r:Result)(s':MP):Prop:=
  match r with
  | .ok (.ret u)=>CE outer P w H s Q u s'
  | .ok _=>False
  | .error e=>CX outer H s E e s'
structure aA (P:MZ) (w:MV) (K:MS) (mg:Str→Option Kg) (base:MY) (CX:rX) (k:Nat) (f:xM) (fd:Nj) (ps:List Str) (sp:Sp):Prop where
  len:∀vs H Q E,sp vs H Q E→vs.length=ps.length
  run:∀(A:Nb) (outer:List Env) (s:MP) (H:Hp) (args:Args) (us:List Kg) (vs:List V) (Q:VK) (E:XK),bI k A→uk P w K mg base A outer s H→BindsTo s fd args (ps.zip us)→aP vs us→sp vs H Q E→
    codeAny (Ng P w) A (.call (.ref f) args) (CR CX outer P w H s Q E) s
theorem aA.mono{P:MZ}{w:MV}{K:MS}{mg:Str→Option Kg}{base:MY}{CX:rX}{j k:Nat}{f:xM}{fd:Nj}{ps:List Str}{sp:Sp}(F:aA P w K mg base CX j f fd ps sp)(h:j≤k):
    aA P w K mg base CX k f fd ps sp:=⟨F.len,fun A outer s H args us vs Q E hr=>F.run A outer s H args us vs Q E (hr.mono h)⟩
theorem aA.imp{P:MZ}{w:MV}{K:MS}{mg:Str→Option Kg}{base:MY}{CX:rX}{k:Nat}{f:xM}{fd:Nj}{ps:List Str}{sp sp':Sp}(F:aA P w K mg base CX k f fd ps sp)
    (h:∀vs H Q E,sp' vs H Q E→sp vs H Q E):aA P w K mg base CX k f fd ps sp':=
  ⟨fun vs H Q E q=>F.len vs H Q E (h _ _ _ _ q),fun A outer s H args us vs Q E hr he hb hv hs=>F.run A outer s H args us vs Q E hr he hb hv (h _ _ _ _ hs)⟩
theorem uk.make{P:MZ}{w:MV}{K:MS}{mg:Str→Option Kg}{base:MY}{A:Nb}{outer:List Env}{s:MP}{H:Hp}(e:uk P w K mg base A outer s H)(C:xM)(us:List Kg)(kw:List (Str × Kg)):
    uk P w K mg base (A.under (.builtin "type.__call__" ⟨.ref C::us,kw⟩)) outer s H:=⟨by first | exact e.frames | (simpa [Qj,Code.envs,Code.isFrame,pushEnvs] using e.frames),e.mod,e.bs,e.bsz,e.funs,e.frf,e.hok,e.bare⟩
section
variable{X:Cx}{pins:List (xM × Obj)}{σ:St}{H:Hp}{s s':MP}
theorem aC.env0(I:aC X pins σ H s):uk X.prog X.w X.K X.mg X.base X.A X.stack s H:=
  ⟨I.ok.frames,I.ok.mod,I.bs,NG I.ok.bsz I.sz,I.stack,I.stkFree,I.hok,I.bare⟩
theorem aC.after{Q:VK}{u:Kg}(I:aC X pins σ H s)(h:CE X.stack X.prog X.w H s Q u s'):EP X pins σ Q u s':=by
  obtain⟨v,H',os,bare,un,hok,r,q⟩:=h
  obtain⟨hh,g,d,t,os'⟩:=s'
  obtain rfl:os'=s.os:=os
  exact⟨v,H',I.call (h':=hh) (g':=g) (d':=d) (t':=t) (ch:=[]) un hok bare (fun b z=>absurd z (by simp)),r,q⟩
end
def qr(sp:Sp)(dvs:List V)(E:XK)(t:TA):TE:=fun σ H Q=>t σ H fun vs H1=>sp (vs++dvs) H1 Q E
def Ae(C:xM)(m:Str)(sp:Sp)(dvs:List V)(E:XK)(ta:TE)(t:TA):TE:=fun σ H Q=>ta σ H fun x H1=>∃a dx fs,x=.ref a∧H1 a=some (.ins C dx fs)∧fs.lookup m=none∧
  t σ H1 fun vs H2=>sp (x::(vs++dvs)) H2 Q E
def Hm(C:xM)(sp:Sp)(dvs:List V)(E:XK)(t:TA):TE:=fun σ H Q=>t σ H fun vs H1=>∀x dx,H1 x=none→H1 dx=none→dx≠x→
  sp (.ref x::(vs++dvs)) (bv (bv H1 dx (.own x)) x (.ins C dx [])) (fun v H2=>v=.non∧Q (.ref x) H2) E
def dq(K:MS)(fd:Nj)(ps:List Str)(ds:List Kg):Prop:=
  ∀(s:MP) (us:List Kg),K.In s.heap→(us++ds).length=ps.length→BindsTo s fd ⟨us,[]⟩ (ps.zip (us++ds))
theorem dq.all{K:MS}{fd:Nj}{ps:List Str}(h:∀us:List Kg,us.length=ps.length→bindArgs fd ⟨us,[]⟩=pure (ps.zip us)):dq K fd ps []:=fun s us _ hl=>by
  rw [OC] at hl ⊢
  exact .of_eq (h us hl)
def jV(CX:rX)(X:Cx)(E:XK):Prop:=∀(pins:List (xM × Obj)) (σ:St) (H:Hp) (s:MP) (e:Kg) (s':MP),aC X pins σ H s→CX X.stack H s E e s'→X.xe e s'
section
variable{X:Cx}{CX:rX}{k:Nat}{f C:xM}{fd:Nj}{ps:List Str}{sp:Sp}{dvs:List V}{ds:List Kg}{E:XK}{x m:Str}{p pos apos:Pos}{e o:MU}{es:List MU}{ta:TE}{t:TA}
theorem rL{pins:List (xM × Obj)}{σ:St}{H:Hp}{s:MP}{Q:VK}{us:List Kg}{vs:List V}(F:aA X.prog X.w X.K X.mg X.base CX k f fd ps sp)(hr:bI k X.A)(hb:dq X.K fd ps ds)(hd:aP dvs ds)(hx:jV CX X E)
    (I:aC X pins σ H s)(r:aP vs us)(h:sp (vs++dvs) H Q E):Nc (Ng X.prog X.w) X.A (call (.ref f) us) (EP X pins σ Q) X.xe s:=by
  have r2:aP (vs++dvs) (us++ds):=r.append hd
  have hl:(us++ds).length=ps.length:=by rw [←r2.length];exact F.len _ _ _ _ h
  refine wpAny_call (codeAny_mono (F.run X.A X.stack s H ⟨us,[]⟩ (us++ds) (vs++dvs) Q E hr I.env0 (hb s us I.kIn hl) r2 h) fun r s' hq=>?_)
  cases r with
  | error e=>exact hx pins σ H s e s' I hq
  | ok fl=>
    cases fl with
    | ret u=>exact I.after hq
    | next=>exact Oo hq
    | brk=>exact Oo hq
    | cont=>exact Oo hq
theorem BI(F:aA X.prog X.w X.K X.mg X.base CX k f fd ps sp)(hr:bI k X.A)(hg:Gl X x)(hm:X.mg x=some (.ref f))(hk:OY X.K (.ref f)=true)(hb:dq X.K fd ps ds)(hd:aP dvs ds)(hx:jV CX X E)
    (ha:PA X (e::es) t)(hdb:(x==("__debug__":Str))=false:=by decide)(he:Nf (e::es) X.env=(false,Nh e X.env)::Nf es X.env:=by rfl)(hpl:(Nr pos (Nf es X.env)).any (·.1)=false:=by rfl):
    PE X (.Call (.Name x p) (e::es) [] pos) (qr sp dvs E t):=by
  intro pins s σ H Q I h
  refine PR (kG I hg hm ?_ hdb)
  refine Qk (h₀:=X.base) I.ok.mod.kin hk (cw (ha pos pins s σ H _ I h) fun us s1 ⟨vs,H1,I1,r,q⟩=>⟨I1.kIn,?_⟩) he hpl
  exact rL F hr hb hd hx I1 r q
theorem BM{pl:Sem Bool}(he:PE X o ta)(c:ph X.K C)(hm:ly X.K C m f)(F:aA X.prog X.w X.K X.mg X.base CX k f fd ps sp)(hr:bI k X.A)(hb:dq X.K fd ps ds)(hd:aP dvs ds)(hx:jV CX X E)(ha:PA X (e::es) t)
    (hst:Nf (e::es) X.env=(false,Nh e X.env)::Nf es X.env:=by rfl)(hpl:(Nr pos (Nf es X.env)).any (·.1)=false:=by rfl)
    (ht:Nh (.Call (.Attribute o m apos) (e::es) [] pos) X.env=(do
      let ov ←Nh o X.env
      standAt apos.atName
      let (f,first) ←holding [ov] (getMethod ov m pl)
      callWith pos f first (Nr pos (Nf (e::es) X.env)) (OF pos (OG [] X.env))):=by rfl):
    PE X (.Call (.Attribute o m apos) (e::es) [] pos) (Ae C m sp dvs E ta t):=by
  intro pins s σ H Q I h
  refine PySem.W.methodCall_KW (pl:=pl) (cw (he pins s σ H _ I h) fun u s1 ⟨x,H1,I1,rx,a,dx,fs,ex,ea,l,q⟩=>?_) ht
  subst ex
  obtain rfl:u=Value.ref a:=rx
  refine nU I1 ea c hm l ?_
  refine Qk (first:=[.ref a]) (h₀:=X.base) I.ok.mod.kin hm.kp (cw (ha pos pins s1 σ H1 _ I1 q) fun us s2 ⟨vs,H2,I2,r,q2⟩=>⟨I2.kIn,?_⟩) hst hpl
  exact rL (us:=.ref a::us) (vs:=.ref a::vs) F hr hb hd hx I2 (.cons rfl r) q2
theorem zi{pl:Sem Bool}(he:PE X o ta)(c:ph X.K C)(hm:ly X.K C m f)(F:aA X.prog X.w X.K X.mg X.base CX k f fd ps sp)(hr:bI k X.A)(hb:dq X.K fd ps ds)(hd:aP dvs ds)(hx:jV CX X E)
    (ht:Nh (.Call (.Attribute o m apos) [] [] pos) X.env=(do
      let ov ←Nh o X.env
      standAt apos.atName
      let (f,first) ←holding [ov] (getMethod ov m pl)
      callWith pos f first (Nr pos (Nf [] X.env)) (OF pos (OG [] X.env))):=by rfl):
    PE X (.Call (.Attribute o m apos) [] [] pos) (Ae C m sp dvs E ta Af):=by
  intro pins s σ H Q I h
  refine PySem.W.methodCall_KW (pl:=pl) (cw (he pins s σ H _ I h) fun u s1 ⟨x,H1,I1,rx,a,dx,fs,ex,ea,l,q⟩=>?_) ht
  subst ex
  obtain rfl:u=Value.ref a:=rx
  refine nU I1 ea c hm l ?_
  exact PySem.W.callWith_K0 (first:=[.ref a]) I1.kIn hm.kp (rL (us:=[.ref a]) (vs:=[.ref a]) F hr hb hd hx I1 (.cons rfl .nil) q)
structure Mk (K:MS) (C f:xM):Prop where
  makes:PySem.W.makesIn K C=true
  init:Oq K (.ref C) "__init__"=some (some (.ref f))
  fn:PySem.W.isFn K (.ref f)=true
  kp:OY K (.ref C)=true
theorem zW{pins:List (xM × Obj)}{σ:St}{H:Hp}{s:MP}{Q:VK}{us:List Kg}{vs:List V}(M:Mk X.K C f)(F:aA X.prog X.w X.K X.mg X.base CX k f fd ps sp)(hr:bI (k+1) X.A)(hb:dq X.K fd ps ds)(hd:aP dvs ds)
    (hx:jV CX X E)(I:aC X pins σ H s)(r:aP vs us)
    (h:∀x dx,H x=none→H dx=none→dx≠x→sp (.ref x::(vs++dvs)) (bv (bv H dx (.own x)) x (.ins C dx [])) (fun v H2=>v=.non∧Q (.ref x) H2) E):
    Nc (Ng X.prog X.w) X.A (call (.ref C) us) (EP X pins σ Q) X.xe s:=by
  have hq:=h (s.heap.objs.size+1) s.heap.objs.size (I.hok.fresh (Nat.le_succ _)) (I.hok.fresh (Nn _)) (Oc (Nat.lt_succ_self _))
  have I2:=aC.made (C:=C) I
  have r2:aP (V.ref (s.heap.objs.size+1)::(vs++dvs)) (Value.ref (s.heap.objs.size+1)::(us++ds)):=.cons rfl (r.append hd)
  have hl:(Value.ref (s.heap.objs.size+1)::us++ds).length=ps.length:=by
    have e:=r2.length
    rw [F.len _ _ _ _ hq] at e
    exact e.symm
  refine wpAny_call (yN (f:=f) I.kIn M.makes M.init (beq_iff_eq.mp M.fn) (codeAny_mono (F.run _ X.stack _ _ ⟨Value.ref (s.heap.objs.size+1)::us,[]⟩ (Value.ref (s.heap.objs.size+1)::(us++ds)) _ _ E (hr.make C us [])
    (I2.env0.make C us []) (hb _ (Value.ref (s.heap.objs.size+1)::us) I2.kIn hl) r2 hq) fun r s' hq'=>?_))
  cases r with
  | error e=>exact hx pins σ _ _ e s' I2 hq'
  | ok fl=>
    cases fl with
    | ret u=>
      obtain⟨v,H',I3,rv,ev,q3⟩:=I2.after hq'
      subst ev
      exact⟨rv,⟨V.ref (s.heap.objs.size+1),H',I3,rfl,q3⟩⟩
    | next=>exact Oo hq'
    | brk=>exact Oo hq'
    | cont=>exact Oo hq'
theorem BL(M:Mk X.K C f)(F:aA X.prog X.w X.K X.mg X.base CX k f fd ps sp)(hr:bI (k+1) X.A)(hg:Gl X x)(hm:X.mg x=some (.ref C))(hb:dq X.K fd ps ds)(hd:aP dvs ds)(hx:jV CX X E)
    (ha:PA X (e::es) t)(hdb:(x==("__debug__":Str))=false:=by decide)(he:Nf (e::es) X.env=(false,Nh e X.env)::Nf es X.env:=by rfl)(hpl:(Nr pos (Nf es X.env)).any (·.1)=false:=by rfl):
    PE X (.Call (.Name x p) (e::es) [] pos) (Hm C sp dvs E t):=by
  intro pins s σ H Q I h
  refine PR (kG I hg hm ?_ hdb)
  refine Qk (h₀:=X.base) I.ok.mod.kin M.kp (cw (ha pos pins s σ H _ I h) fun us s1 ⟨vs,H1,I1,r,q⟩=>⟨I1.kIn,?_⟩) he hpl
  exact zW M F hr hb hd hx I1 r q
end
section
variable{X:Cx}{CX:rX}{k:Nat}{f C:xM}{fd:Nj}{ps ks:List Str}{sp:Sp}{E:XK}{x m:Str}{p pos apos kpos:Pos}{e o:MU}{es:List MU}{kws:List NV}{te ta:TE}{t tk:TA}{nm:Option Str}
structure Ib (K:MS) (fd:Nj) (ps ks:List Str) (g:List Kg→List Kg→List Kg) (gV:List V→List V→List V):Prop where
  to:∀(s:MP) (us ws:List Kg),K.In s.heap→(g us ws).length=ps.length→BindsTo s fd ⟨us,ks.zip ws⟩ (ps.zip (g us ws))
  rel:∀{vs:List V} {us:List Kg} {zs:List V} {ws:List Kg},aP vs us→aP zs ws→aP (gV vs zs) (g us ws)
variable{g:List Kg→List Kg→List Kg}{gV:List V→List V→List V}
end
structure au (N P:List Str) (sc:Nz):Prop where
  kind:sc.kind=.function
  co:sc.isCoroutine=false
  gen:sc.isGenerator=false
  nd:N.Nodup
  pre:N.take P.length=P
  par:∀x∈P,sc.names.lookup x=some .local∨sc.names.lookup x=some .cell
  nofree:∀y∈sc.names,y.2≠.free
theorem pQ{Os:Str→Option NW}{x:Str}:∀{binds:List (Str × Kg)} {m:Str→Option Kg},(∀v,(x,v)∉binds)→bindL Os binds m x=m x
  | [],_,_=>rfl
  | (n,v)::r,m,h=>by
    unfold bindL
    rw [pQ fun w hw=>h w (Om _ hw)]
    split
    · have:x≠n:=by rintro rfl;exact h v OL
      simp [this]
    · rfl
theorem pO{Os:Str→Option NW}{x:Str}:∀{binds:List (Str × Kg)} {m:Str→Option Kg},(∀v,(x,v)∉binds)→bindC Os binds m x=m x
  | [],_,_=>rfl
  | (n,v)::r,m,h=>by
    unfold bindC
    rw [pO fun w hw=>h w (Om _ hw)]
    split
    · rfl
    · have:x≠n:=by rintro rfl;exact h v OL
      simp [this]
theorem pP{Os:Str→Option NW}{x:Str}{v:Kg}:∀{P:List Str} {vs:List Kg} {i:Nat} {m:Str→Option Kg},P.Nodup→P[i]?=some x→vs[i]?=some v→Os x=some .local→
    bindL Os (P.zip vs) m x=some v
  | [],_,_,_,_,h,_,_=>by simp at h
  | _::_,[],_,_,_,_,h,_=>by simp at h
  | p::P,w::vs,0,m,nd,h1,h2,hk=>by
    simp at h1 h2;subst h1;subst h2
    show bindL Os ((p,w)::P.zip vs) m p=_
    unfold bindL
    rw [pQ fun v hv=>(OZ.mp nd).1 (List.of_mem_zip hv).1,if_pos hk]
    simp
  | p::P,w::vs,i+1,m,nd,h1,h2,hk=>by
    show bindL Os ((p,w)::P.zip vs) m x=_
    unfold bindL
    exact pP (i:=i) (OZ.mp nd).2 (by simpa using h1) (by simpa using h2) hk
theorem pN{Os:Str→Option NW}{x:Str}{v:Kg}:∀{P:List Str} {vs:List Kg} {i:Nat} {m:Str→Option Kg},P.Nodup→P[i]?=some x→vs[i]?=some v→Os x≠some .local→
    bindC Os (P.zip vs) m x=some v
  | [],_,_,_,_,h,_,_=>by simp at h
  | _::_,[],_,_,_,_,h,_=>by simp at h
  | p::P,w::vs,0,m,nd,h1,h2,hk=>by
    simp at h1 h2;subst h1;subst h2
    show bindC Os ((p,w)::P.zip vs) m p=_
    unfold bindC
    rw [pO fun v hv=>(OZ.mp nd).1 (List.of_mem_zip hv).1,if_neg hk]
    simp
  | p::P,w::vs,i+1,m,nd,h1,h2,hk=>by
    show bindC Os ((p,w)::P.zip vs) m x=_
    unfold bindC
    exact pN (i:=i) (OZ.mp nd).2 (by simpa using h1) (by simpa using h2) hk
def gw(N:List Str)(vs:List V):St:=vs.map some++Nk (N.length - vs.length) none
def sy(CX:rX)(P:MZ)(w:MV)(K:MS)(mg:Str→Option Kg)(base:MY)(N:List Str)(qual:Str)(scope:Nz)(f:xM)(cd:Kg)(A:Nb)(outer:List Env)(s:MP)(H:Hp)(E:XK):Cx where
  prog:=P
  w:=w
  K:=K
  mg:=mg
  base:=base
  A:=A.deeper (envOfC qual scope s.heap.objs.size f cd)
  N:=N
  s₀:=s
  H₀:=H
  env:=envOfC qual scope s.heap.objs.size f cd
  outer:=outer
  stack:=envOfC qual scope s.heap.objs.size f cd::outer
  ex:=[]
  calm:=true
  fn:=fun _=>true
  pn:=[]
  xe:=fun e s'=>Nc (Ng P w) (A.deeper (envOfC qual scope s.heap.objs.size f cd)) (leaving (envOfC qual scope s.heap.objs.size f cd) e) (fun _ s''=>CX outer H s E e s'') (fun e' s''=>CX outer H s E e' s'') s'
theorem su{sc:Nz}{n:Nat}{x:Str}(h:sc.names.lookup x=some .cell):∃c,(NB n sc.names []).lookup x=some c:=by
  have q:=PySem.W.cellsFrom_some sc.names n [] (.inl h)
  exact Option.isSome_iff_exists.mp q
theorem xg{CX:rX}{P:MZ}{w:MV}{K:MS}{mg:Str→Option Kg}{base:MY}{N ps:List Str}{qual:Str}{scope:Nz}{f:xM}{cd:Kg}{A:Nb}{outer:List Env}{s s1:MP}{H:Hp}{E:XK}{us:List Kg}{vs:List V}
    (S:au N ps scope)(hd:A.handled=none)(e0:uk P w K mg base A outer s H)(hl:vs.length=ps.length)(r:aP vs us)
    (x:InCallC s s.heap.objs.size (bindL (envOfC qual scope s.heap.objs.size f cd).kindOf (ps.zip us) fun _=>none) (NB (s.heap.objs.size+1) scope.names []) (bindC (envOfC qual scope s.heap.objs.size f cd).kindOf (ps.zip us) fun _=>none) s1):
    aC (sy CX P w K mg base N qual scope f cd A outer s H E) [] (gw N vs) H s1:=by
  have hpl:ps.length≤N.length:=by have:=congrArg List.length S.pre;rw [List.length_take] at this;lia
  obtain⟨h1,tk,rfl,hk⟩:=x.done
  have noA:∀b:xM,b∉(sy CX P w K mg base N qual scope f cd A outer s H E).ex:=fun b z=>absurd (show b∈([]:List xM) from z) (by simp)
  refine⟨⟨e0.mod,S.kind,rfl,rfl,Nn _,fun y z c h1 h2=>?_,fun y hy=>?_,fun y c _ h=>?_,fun _=>hd,Around.frames_deeper e0.frames,.inr ⟨rfl,rfl⟩,fun b z=>absurd z (noA b),e0.bs,e0.bsz,fun b _ _=>noA b,fun b z=>absurd z (noA b),e0.funs,e0.frf⟩,
    rfl,e0.bare,Un.kept hk,⟨_,x.toInCall.ns,fun i y v h1 h2 h3=>?_⟩,fun y c h=>⟨_,x.cell y c h⟩,e0.hok.fresh (Nn _),fun y c h=>?_,fun p hp=>absurd (show p∈([]:List (xM × Obj)) from hp) (by simp),e0.hok.kept hk,?_⟩
  · exact name_of_addr x.apart (PU h1) (PU h2)
  · have hy:scope.names.lookup y=some .cell∨scope.names.lookup y=some .free:=hy
    rcases hy with hy | hy
    · exact su hy
    · exact absurd rfl (S.nofree _ (PU hy))
  · exact Pi (x.above y c (PU h))
  · have hi:i < vs.length:=by
      unfold gw at h2
      by_cases hi:i < vs.length
      · exact hi
      · rw [List.getElem?_append_right (by simpa using hi)] at h2
        rw [QI] at h2
        split at h2<;>cases h2
    have ha:vs[i]?=some v:=by
      unfold gw at h2
      rw [OH (by simpa using hi),NF] at h2
      cases e:vs[i]? with
      | none=>rw [e] at h2;cases h2
      | some a=>rw [e] at h2;cases h2;rfl
    obtain⟨u,hu,rv⟩:=r.get ha
    have hp:ps[i]?=some y:=by
      rw [←S.pre,List.getElem?_take_of_lt (by lia)];exact h1
    have ndP:ps.Nodup:=by rw [←S.pre];exact S.nd.sublist (List.take_sublist _ _)
    refine⟨u,rv,?_⟩
    rcases S.par y (MR hp) with k | k
    · exact .inl ⟨k,pP ndP hp hu k⟩
    · obtain⟨c,e⟩:=su (n:=s.heap.objs.size+1) k
      refine .inr ⟨.inl k,c,e,?_⟩
      have q:=x.cell y c e
      rw [pN ndP hp hu (by show scope.names.lookup y≠_;rw [k];decide)] at q
      exact q
  · exact e0.hok.fresh (Pi (x.above y c (PU h)))
  · unfold gw
    show _=N.length
    rw [PV,NC,QJ]
    lia
theorem Ga{CX:rX}{P:MZ}{w:MV}{K:MS}{mg:Str→Option Kg}{base:MY}{k:Nat}{f:xM}{name qual:Str}{params:Arguments}{body:List Na}{scope:Nz}{dV kV doc pm cdv ct oc:Kg}{an od:Option xM}
    {osl:Array (Option Kg)}{N ps:List Str}{sp:Sp}(lk:K.lookup f=some ⟨oc,od,.func (Ol name qual params body scope dV kV doc pm an cdv ct),osl⟩)(hcd:PX K cdv qual=true)(S:au N ps scope)
    (len:∀vs H Q E,sp vs H Q E→vs.length=ps.length)
    (hbody:∀(A:Nb) (outer:List Env) (s:MP) (H:Hp) (vs:List V) (Q:VK) (E:XK),bI k (A.deeper (envOfC qual scope s.heap.objs.size f cdv))→sp vs H Q E→
      ∃t,i0 (sy CX P w K mg base N qual scope f cdv A outer s H E) body t∧t {nx:=fun _ H'=>Q .non H',rt:=Q} (gw N vs) H):
    aA P w K mg base CX (k+1) f (Ol name qual params body scope dV kV doc pm an cdv ct) ps sp:=by
  refine⟨len,fun A outer s H args us vs Q E hr e0 hb r hsp=>?_⟩
  have hl:=len _ _ _ _ hsp
  have KX:K.In s.heap:=e0.mod.kin.keeps fun b o e=>(e0.bs b o e).1
  have lim:s.heap.NoLimit:=e0.mod.nolimit.keeps fun b o e=>(e0.bs b o e).1
  have hkind:∀y∈ps.zip us,scope.names.lookup y.1=some .local∨(scope.names.lookup y.1=some .cell∧((NB (s.heap.objs.size+1) scope.names []).lookup y.1).isSome=true):=fun⟨n,v⟩ hy=>by
    rcases S.par n (List.of_mem_zip hy).1 with q | q
    · exact .inl q
    · exact .inr ⟨q,PySem.W.cellsFrom_some _ _ _ (.inl q)⟩
  refine codeAny_call_function hr.depth (KX _ _ lk) rfl S.co S.gen rfl (PySem.W.codeRec_of KX hcd) (hb _ _ _ _ ?_)
  refine wpAny_newFunctionEnv_cells S.kind hkind fun env he s1 x=>?_
  subst he
  refine⟨lim.keeps x.toInCall.keep,codeAny_func ?_⟩
  obtain⟨t,ht,hq⟩:=hbody A outer s H vs Q E (hr.deeper _) hsp
  have I:aC (sy CX P w K mg base N qual scope f cdv A outer s H E) [] (gw N vs) H s1:=xg S hr.hd e0 hl r x
  refine On (ht [] s1 (gw N vs) H _ I hq) (fun fl s' hs=>?_) fun e s' hs=>hs
  have fin:∀{σ':St} {H':Hp} {v:V} {u:Kg},aC (sy CX P w K mg base N qual scope f cdv A outer s H E) [] σ' H' s'→bF v u→Q v H'→CE outer P w H s Q u s':=
    fun{σ' H' v u} J rv q=>⟨v,H',J.os,J.bare,J.base,J.hok,rv,q⟩
  cases fl with
  | ret u=>
    obtain⟨v,σ',H',J,rv,q⟩:=hs
    exact fin J rv q
  | next=>
    obtain⟨σ',H',J,q⟩:=hs
    exact fin (v:=V.non) (u:=Value.none) J rfl q
  | brk=>
    obtain⟨_,_,_,q⟩:=hs
    exact Oo q
  | cont=>
    obtain⟨_,_,_,q⟩:=hs
    exact Oo q
section
variable{X:Cx}{x:Str}{p pos:Pos}{e:MU}{es:List MU}{t:TA}{id T:String}{r:List V→Hp→VK→Prop}
def HR(r:List V→Hp→VK→Prop)(t:TA):TE:=fun σ H Q=>t σ H fun vs H1=>r vs H1 Q
theorem ou(hc:cM X (.builtin id) r)(hg:Gl X x)(hm:X.mg x=none)(hv:OA x=some (.builtin id))(ha:PA X (e::es) t)(hn:x≠"__name__":=by decide)(hdb:(x==("__debug__":Str))=false:=by decide)
    (he:Nf (e::es) X.env=(false,Nh e X.env)::Nf es X.env:=by rfl)(hpl:(Nr pos (Nf es X.env)).any (·.1)=false:=by rfl):PE X (.Call (.Name x p) (e::es) [] pos) (HR r t):=by
  intro pins s σ H Q I h
  refine PR (rc I hg hm hv ?_ hn hdb)
  exact PyProof.Rows.callWith_builtin1 (cw (ha pos pins s σ H _ I h) fun us s1 ⟨vs,H1,I1,r1,q1⟩=>hc pins s1 σ H1 vs us Q I1 r1 q1) he hpl
theorem qe(hc:cM X (.type T) r)(hg:Gl X x)(hm:X.mg x=none)(hv:OA x=some (.type T))(ha:PA X (e::es) t)(hn:x≠"__name__":=by decide)(hdb:(x==("__debug__":Str))=false:=by decide)
    (he:Nf (e::es) X.env=(false,Nh e X.env)::Nf es X.env:=by rfl)(hpl:(Nr pos (Nf es X.env)).any (·.1)=false:=by rfl):PE X (.Call (.Name x p) (e::es) [] pos) (HR r t):=by
  intro pins s σ H Q I h
  refine PR (rc I hg hm hv ?_ hn hdb)
  exact Rb (cw (ha pos pins s σ H _ I h) fun us s1 ⟨vs,H1,I1,r1,q1⟩=>hc pins s1 σ H1 vs us Q I1 r1 q1) he hpl
end
end L2
namespace HT
open PySem PyProof.Rows
section
open PySem.SeqAt
open PySem.AutoSeq1 (wpAny_loadPart')
open PySem.MeetsSeq PySem.MeetsSeq2 PySem.MeetsSeq3
end
section
variable{prog:MZ}{w:MV}{A:Nb}{E:Kg→MP→Prop}{s:MP}
theorem cat_tup{t b:xM}{vs ws:List Kg}{Q:Kg→MP→Prop}(ht:IsTup s.heap t vs.toArray)(hb:IsTup s.heap b ws.toArray)(hv:vs≠[])
    (h1:ws=[]→Q (.ref t) s)(h2:ws≠[]→Q (.ref s.heap.objs.size) {s with heap:=s.heap.push {cls:=.type "tuple",data:=.seq (vs++ws).toArray}})
    (hsz:vs.length+ws.length≤Nl):Nc (Ng prog w) A (NM .Add (.ref t) (.ref b)) Q E s:=by
  obtain⟨⟨cls,dd,data,sl⟩,ho,hc,n,hd⟩:=id ht
  obtain⟨⟨cls2,dd2,data2,sl2⟩,ho2,hc2,n2,hd2⟩:=id hb
  simp only at hc hd hc2 hd2
  subst hc hd hc2 hd2
  have e:vs.toArray++ws.toArray=(vs++ws).toArray:=by simp
  by_cases hw:ws=[]
  · exact concat_meets ⟨_,ho,rfl⟩ ⟨_,ho2,rfl⟩ noFill_tuple_add seq_tuple_add PySem.F.slot_tuple_add PySem.F.entry_tuple_add (PySem.F.args_tuple_add_2 _ _)
      (tuple_addW1 t b vs.toArray ws.toArray n n2 dd dd2 sl sl2 (by simpa using hv) (by simp [hw])) ⟨ho,ho2,h1 hw⟩
  · refine concat_meets ⟨_,ho,rfl⟩ ⟨_,ho2,rfl⟩ noFill_tuple_add seq_tuple_add PySem.F.slot_tuple_add PySem.F.entry_tuple_add (PySem.F.args_tuple_add_2 _ _)
      (tuple_addW2 t b vs.toArray ws.toArray n n2 dd dd2 sl sl2 (by simpa using hv) (by simpa using hw) (by rw [Nx,Nx];exact hsz)) ⟨ho,ho2,?_⟩
    rw [e]
    exact h2 hw
def sIx(n d:Nat):Option Int→Nat
  | none=>d
  | some v=>if v < 0 then(v+(n:Int)).toNat else min v.toNat n
theorem Fd(n d:Nat)(hd:d≤n)(o:Option Int):sIx n d o≤n:=by
  cases o with
  | none=>exact hd
  | some v=>
    show(if v < 0 then(v+(n:Int)).toNat else min v.toNat n)≤n
    by_cases hv:v < 0
    · rw [if_pos hv];lia
    · rw [if_neg hv];exact Nat.min_le_right _ _
theorem vA(v:Int)(n d:Nat):(if v < 0 then max (v+(n:Int)) 0 else min v (n:Int))=((sIx n d (some v):Nat):Int):=by
  show(if v < 0 then max (v+(n:Int)) 0 else min v (n:Int))=(((if v < 0 then(v+(n:Int)).toNat else min v.toNat n):Nat):Int)
  by_cases hv:v < 0
  · simp only [if_pos hv];lia
  · simp only [if_neg hv];lia
theorem um(lo hi:Option Int)(n:Nat):QK lo hi 1 (n:Int)=(((sIx n 0 lo:Nat):Int),((sIx n n hi:Nat):Int)):=by
  have h1:¬((1:Int) < 0):=by lia
  unfold QK
  simp only [h1,if_false]
  refine Prod.ext ?_ ?_
  · cases lo with
    | none=>rfl
    | some v=>exact vA v n 0
  · cases hi with
    | none=>rfl
    | some v=>exact vA v n n
theorem uW(i j:Nat):Ql (i:Int) (j:Int) 1=j - i:=by
  unfold Ql
  have h1:(1:Int) > 0:=by lia
  simp only [h1,if_true,Int.ediv_one]
  split<;>lia
theorem oV{v:Kg}{o:Option Int}{Q:Option Int→MP→Prop}(p:IsPart v o)(h:Q o s):Nc (Ng prog w) A (Builtin.Slice.slicePartIndex v) Q E s:=by
  cases p with
  | none=>exact slicePart_none h
  | int i t=>exact slicePart_int h
theorem hR{sl:xM}{vl vu:Kg}{lo hi:Option Int}{n:Nat}{Q:Int × Int × Nat→MP→Prop}(hs:s.heap.IsSliceOf sl vl vu .none)(pl:IsPart vl lo)(pu:IsPart vu hi)
    (h:Q (((sIx n 0 lo:Nat):Int),1,sIx n n hi - sIx n 0 lo) s):Nc (Ng prog w) A (Re (.ref sl) (pure (n:Int))) Q E s:=by
  obtain⟨os,hos,hcs,hds⟩:=id hs
  unfold Re Builtin.Slice.sliceFields
  refine Ni (Ni (wpAny_field hos hds (x:=vl) rfl (Ni (wpAny_field hos hds (x:=vu) rfl (Ni (wpAny_field hos hds (x:=.none) rfl (Nm ?_)))))))
  refine Ni (slicePart_none ?_)
  show Nc _ _ (if ((1:Int)==0)=true then _ else _) _ _ s
  rw [if_neg (by decide)]
  refine Ni (oV pl (Ni (oV pu (Ni (Nm ?_)))))
  show Nc _ _ (match QK lo hi 1 (n:Int) with | (lo,hi)=>pure (lo,(1:Int),Ql lo hi 1)) _ _ s
  rw [um lo hi n]
  show Nc _ _ (pure (((sIx n 0 lo:Nat):Int),(1:Int),Ql ((sIx n 0 lo:Nat):Int) ((sIx n n hi:Nat):Int) 1)) _ _ s
  rw [uW]
  exact Nm h
theorem zp(xs:Array Kg)(i k:Nat):((OX k).filterMap fun(m:Nat)=>xs[((i:Int)+(m:Int)*1).toNat]?).toArray=((xs.toList.drop i).take k).toArray:=by
  have e:(fun(m:Nat)=>xs[((i:Int)+(m:Int)*1).toNat]?)=fun m=>xs[i+m]?:=by
    funext m
    have:((i:Int)+(m:Int)*1).toNat=i+m:=by lia
    rw [this]
  rw [e]
  have:=pick_run xs i k
  rw [List.filterMap_map] at this
  have e2:((fun x=>xs[x]?) ∘ fun x=>i+x)=fun m=>xs[i+m]?:=rfl
  rw [e2] at this
  rw [this]
theorem getItem_tuple_cut{t sl:xM}{items:Array Kg}{vl vu:Kg}{lo hi:Option Int}{Q:Kg→MP→Prop}(ht:IsTup s.heap t items)(hs:s.heap.IsSliceOf sl vl vu .none)(pl:IsPart vl lo)(pu:IsPart vu hi)
    (hw:¬(sIx items.size 0 lo=0∧sIx items.size items.size hi=items.size))
    (h:Q (.ref s.heap.objs.size) {s with heap:=s.heap.push {cls:=.type "tuple",data:=.seq ((items.toList.drop (sIx items.size 0 lo)).take (sIx items.size items.size hi - sIx items.size 0 lo)).toArray}})
    (hsz:items.size≤Nl):Nc (Ng prog w) A (getItem (.ref t) (.ref sl)) Q E s:=by
  have htake:sizeOk (.seq ((items.toList.drop (sIx items.size 0 lo)).take (sIx items.size items.size hi - sIx items.size 0 lo)).toArray):=by
    show((items.toList.drop (sIx items.size 0 lo)).take (sIx items.size items.size hi - sIx items.size 0 lo)).toArray.size≤Nl
    rw [Nx,List.length_take,List.length_drop,QF]
    lia
  have hj:sIx items.size items.size hi≤items.size:=Fd _ _ (Nn _) hi
  obtain⟨os,hos,hcs,hds⟩:=id hs
  have hTs:s.TypeIs (.ref sl) "slice":=⟨os,hos,hcs⟩
  unfold getItem
  try with_reducible refine wpAny_holding ?_
  first | refine Ni (Nm ?_) | skip
  refine Ni (wpAny_sequenceKey ht.typeIs (by decide) ?_)
  refine Ni (wpAny_callSpecial?_slot (name:=MW "__getitem__") ht.typeIs Pn
    (wpAny_call_entry Pn ht.typeIs entry_tuple_getitem ?_ (args_tuple_getitem _ _)))
  show Nc _ _ (Rf (.ref t) >>= _) _ _ s
  refine Ni (tupleItemsOf_ ht ?_)
  refine Ni (wpAny_typeOf hTs ?_)
  rw [if_pos (by decide)]
  refine Ni (hR hs pl pu ?_)
  have hno:¬((((sIx items.size 0 lo:Nat):Int)==0&&(1:Int)==1&&(sIx items.size items.size hi - sIx items.size 0 lo)==items.size)=true):=by
    intro q
    rw [NX,NX] at q
    have q1:((sIx items.size 0 lo:Nat):Int)=0:=eq_of_beq q.1.1
    have q2:sIx items.size items.size hi - sIx items.size 0 lo=items.size:=eq_of_beq q.2
    exact hw ⟨by lia,by lia⟩
  show Nc _ _ (if (((sIx items.size 0 lo:Nat):Int)==0&&(1:Int)==1&&(sIx items.size items.size hi - sIx items.size 0 lo)==items.size)=true then _ else _) _ _ s
  rw [if_neg hno,zp]
  first
    | exact Ni (m:=PF _) (Pj (Nm ⟨_,rfl,Nm h⟩) htake)
    | exact Ni (m:=PF _) (Pj (Ni (Nm (Nm ⟨_,rfl,Nm h⟩))) htake)
    | exact Ni (Ni (m:=PF _) (Pj (Nm (Nm ⟨_,rfl,Nm h⟩)) htake))
    | exact Ni (Ni (m:=PF _) (Pj (Nm ⟨_,rfl,Nm h⟩) htake))
end
end HT
namespace L2
open PySem PySem.Spec PyProof.Rows
abbrev TO:=St→Hp→(Option Int→Hp→Prop)→Prop
def PO(X:Cx)(e:Option MU)(t:TO):Prop:=
  ∀(pins:List (xM × Obj)) (s:MP) (σ:St) (H:Hp) (Q:Option Int→Hp→Prop),aC X pins σ H s→t σ H Q→
    Nc (Ng X.prog X.w) X.A (evalPart e X.env) (fun u s'=>∃o H',aC X pins σ H' s'∧IsPart u o∧Q o H') X.xe s
def Cc:TO:=fun _ H Q=>Q none H
def Hq(t:TE):TO:=fun σ H Q=>t σ H fun x H1=>∃i,x=.int i∧Q (some i) H1
theorem nY{ns:List Int}:∀{us:List Kg},aP (ns.map V.int) us→OO us ns:=by
  induction ns with
  | nil=>intro us r;rw [Oe] at r;cases r;exact .nil
  | cons n ns ih=>
    intro us r
    rw [ND] at r
    cases r with
    | cons r1 r2=>
      obtain⟨t,e⟩:=r1
      subst e
      exact .cons n t (ih r2)
section
variable{X:Cx}{e:MU}{te:TE}{lo hi:Option MU}{tl th:TO}{pos p2:Pos}
theorem BP:PO X none Cc:=by
  intro pins s σ H Q I h
  rw [evalPart_none]
  exact Nm ⟨none,H,I,.none,h⟩
theorem BQ(h:PE X e te):PO X (some e) (Hq te):=by
  intro pins s σ H Q I hw
  rw [evalPart_some]
  refine cw (h pins s σ H _ I hw) fun u s1 ⟨x,H1,I1,r1,q1⟩=>?_
  obtain⟨i,rfl,q⟩:=q1
  obtain⟨t,rfl⟩:=r1
  exact⟨some i,H1,I1,.int i t,q⟩
def Ap(X:Cx)(r:V→Option Int→Option Int→Hp→VK→Prop):Prop:=
  ∀(pins:List (xM × Obj)) (s:MP) (σ:St) (H:Hp) (x:V) (v vl vu:Kg) (lo hi:Option Int) (sl:xM) (Q:VK),aC X pins σ H s→bF x v→s.heap.IsSliceOf sl vl vu .none→IsPart vl lo→IsPart vu hi→r x lo hi H Q→
    ∃T id,typeLookup (.type T) "__getitem__"=pure (some (.builtin id))∧s.TypeIs v T∧Nc (Ng X.prog X.w) X.A (getItem v (.ref sl)) (EP X pins σ Q) X.xe s
theorem Ap.or{r r':V→Option Int→Option Int→Hp→VK→Prop}(h:Ap X r)(h':Ap X r'):Ap X (fun x lo hi H Q=>r x lo hi H Q∨r' x lo hi H Q):=by
  intro pins s σ H x v vl vu lo hi sl Q I rx hs pl pu q
  rcases q with q | q
  · exact h pins s σ H x v vl vu lo hi sl Q I rx hs pl pu q
  · exact h' pins s σ H x v vl vu lo hi sl Q I rx hs pl pu q
def J9(r:V→Option Int→Option Int→Hp→VK→Prop)(te:TE)(tl th:TO):TE:=fun σ H Q=>te σ H fun x H1=>tl σ H1 fun l H2=>th σ H2 fun u H3=>r x l u H3 Q
theorem ox{r:V→Option Int→Option Int→Hp→VK→Prop}(hr:Ap X r)(he:PE X e te)(hl:PO X lo tl)(hu:PO X hi th):PE X (.Subscript e (.Slice lo hi none p2) pos) (J9 r te tl th):=by
  intro pins s σ H Q I h
  refine Subscript_ (cw (he pins s σ H _ I h) fun v s1 ⟨x,H1,I1,r1,q1⟩=>?_)
  refine wpAny_Slice (cw (hl pins s1 σ H1 _ I1 q1) fun vl s2 ⟨l,H2,I2,pl,q2⟩=>cw (hu pins s2 σ H2 _ I2 q2) fun vu s3 ⟨u,H3,I3,pu,q3⟩=>?_)
  rw [evalPart_none]
  refine Nm ?_
  have I4:aC X pins σ H3 {s3 with heap:=s3.heap.push {cls:=.type "slice",data:=.fields #[vl,vu,.none]}}:=I3.kept (t':=s3.toks) fun b ob q=>NH _ q
  obtain⟨T,id,hT,ht,hg⟩:=hr pins {s3 with heap:=s3.heap.push {cls:=.type "slice",data:=.fields #[vl,vu,.none]}} σ H3 x v vl vu l u s3.heap.objs.size Q I4 r1 (Heap.IsSliceOf.new ..) pl pu q3
  show Nc (Ng X.prog X.w) X.A (subscriptTail e (.Slice lo hi none p2) v (.ref s3.heap.objs.size)) (EP X pins σ Q) X.xe {s3 with heap:=s3.heap.push {cls:=.type "slice",data:=.fields #[vl,vu,.none]}}
  exact tail_any (ops:=[.ref s3.heap.objs.size,v]) ht hT hg (by with_unfolding_all rfl)
def mG(xs:List V)(lo hi:Option Int):List V:=(xs.drop (HT.sIx xs.length 0 lo)).take (HT.sIx xs.length xs.length hi - HT.sIx xs.length 0 lo)
theorem l9(xs:List V)(lo hi:Option Int):(mG xs lo hi).length≤xs.length:=by
  unfold mG
  rw [List.length_take,List.length_drop]
  lia
def G7(K:MS):V→Option Int→Option Int→Hp→VK→Prop:=fun x lo hi H Q=>∃a xs,x=.ref a∧dN K H a xs∧
  ¬(HT.sIx xs.length 0 lo=0∧HT.sIx xs.length xs.length hi=xs.length)∧∀p,H p=none→Q (.ref p) (bv H p (.tup (mG xs lo hi)))
theorem Fe:Ap X (G7 X.K):=by
  intro pins s σ H x v vl vu lo hi sl Q I rx hs pl pu h
  obtain⟨a,xs,rfl,hx,hw,q⟩:=h
  cases rx
  obtain⟨its,r,ht,hz⟩:=I.tuple hx
  have hlen:its.toArray.size=xs.length:=by rw [Nx];exact r.length.symm
  refine⟨"tuple",_,Pn.lookup,ht.typeIs,?_⟩
  refine HT.getItem_tuple_cut ht hs pl pu (by rw [hlen];exact hw) ?_ (by rw [hlen];exact hz)
  rw [hlen]
  refine⟨.ref s.heap.objs.size,_,I.laid (t':=s.toks) (o:=.tup (mG xs lo hi)) (fun b ob q=>NH _ q) (Nn _) ?_,rfl,q _ (I.hok.fresh (Nn _))⟩
  exact⟨NG (l9 xs lo hi) hz,_,(r.drop (HT.sIx xs.length 0 lo)).take (HT.sIx xs.length xs.length hi - HT.sIx xs.length 0 lo),qB.new _ _⟩
def G0(K:MS):R2:=fun x y H Q=>∃a b xs ys,x=.ref a∧y=.ref b∧dN K H a xs∧dN K H b ys∧xs≠[]∧xs.length+ys.length≤Nl∧
  (ys=[]→Q (.ref a) H)∧(ys≠[]→∀p,H p=none→Q (.ref p) (bv H p (.tup (xs++ys))))
theorem aP.nil_iff{xs:List V}{us:List Kg}(r:aP xs us):us=[]↔ xs=[]:=by
  cases r with
  | nil=>simp
  | cons _ _=>simp
theorem BA:gf X (NM .Add) (G0 X.K):=by
  intro pins s σ H x y v u Q I rx ry h
  obtain⟨a,b,xs,ys,rfl,rfl,ha,hb,hx,hz,q1,q2⟩:=h
  cases rx
  cases ry
  obtain⟨its,r1,p1,_⟩:=I.tuple ha
  obtain⟨its2,r2,p2,_⟩:=I.tuple hb
  refine HT.cat_tup p1 p2 (fun z=>hx (r1.nil_iff.mp z)) (fun z=>⟨.ref a,H,I,rfl,q1 (r2.nil_iff.mp z)⟩) (fun z=>?_) (by rw [←r1.length,←r2.length];exact hz)
  refine⟨.ref s.heap.objs.size,_,I.laid (t':=s.toks) (o:=.tup (xs++ys)) (fun b ob q=>NH _ q) (Nn _) ?_,rfl,q2 (fun w=>z (r2.nil_iff.mpr w)) _ (I.hok.fresh (Nn _))⟩
  exact⟨by rw [PV];exact hz,_,r1.append r2,qB.new _ _⟩
end
def Gs(n:Nat)(i:Int):Option Nat:=if 0≤i then(if i < n then some i.toNat else none) else if -(n:Int)≤i then some (i+n).toNat else none
def atI{α:Type}(xs:List α)(i:Int):Option α:=(Gs xs.length i).bind fun j=>xs[j]?
theorem A8{n:Nat}{i:Int}{j:Nat}(h:Gs n i=some j):seqIndex? i n=some j∧j < n∧ -(n:Int)≤i∧i < n:=by
  unfold Gs at h
  by_cases h0:0≤i
  · rw [if_pos h0] at h
    by_cases h1:i < n
    · rw [if_pos h1] at h
      have e:i.toNat=j:=Og h
      exact⟨by rw [seqIndex_of h0 h1,e],by lia,by lia,h1⟩
    · rw [if_neg h1] at h;cases h
  · rw [if_neg h0] at h
    by_cases h1: -(n:Int)≤i
    · rw [if_pos h1] at h
      have e:(i+n).toNat=j:=Og h
      exact⟨by rw [seqIndex_neg (by lia) h1,e],by lia,h1,by lia⟩
    · rw [if_neg h1] at h;cases h
theorem vo{α:Type}{xs:List α}{i:Int}{v:α}(h:atI xs i=some v):∃j,seqIndex? i xs.length=some j∧xs[j]?=some v∧j < xs.length∧ -(xs.length:Int)≤i∧i < xs.length:=by
  unfold atI at h
  cases e:Gs xs.length i with
  | none=>rw [e] at h;cases h
  | some j=>
    rw [e] at h
    obtain⟨h1,h2,h3,h4⟩:=A8 e
    exact⟨j,h1,h,h2,h3,h4⟩
def kg(b:MU):Prop:=∀o i,subscripted b false o i=operate [o,i] (getItem o i)
def AE(X:Cx)(r:R2):Prop:=
  ∀(value slice:MU) (pins:List (xM × Obj)) (s:MP) (σ:St) (H:Hp) (x y:V) (v u:Kg) (Q:VK),aC X pins σ H s→bF x v→bF y u→r x y H Q→
    subscripted slice false v u=operate [v,u] (getItem v u)→Nc (Ng X.prog X.w) X.A (subscriptTail value slice v u) (EP X pins σ Q) X.xe s
def Di(X:Cx)(id:String)(r:V→List V→Hp→VK→Prop):Prop:=
  ∀(pins:List (xM × Obj)) (s:MP) (σ:St) (H:Hp) (x:V) (xs:List V) (v:Kg) (us:List Kg) (Q:VK),aC X pins σ H s→bF x v→aP xs us→r x xs H Q→
    Nc (Ng X.prog X.w) X.A (call (.builtin id) (v::us)) (EP X pins σ Q) X.xe s
section
variable{X:Cx}{a b:MU}{ta tb:TE}{pos:Pos}
theorem AE.or{r r':R2}(h:AE X r)(h':AE X r'):AE X (fun x y H Q=>r x y H Q∨r' x y H Q):=by
  intro value slice pins s σ H x y v u Q I rx ry q hs
  rcases q with q | q
  · exact h value slice pins s σ H x y v u Q I rx ry q hs
  · exact h' value slice pins s σ H x y v u Q I rx ry q hs
theorem zh{r:R2}(hr:AE X r)(ha:PE X a ta)(hb:PE X b tb)(hs:kg b):PE X (.Subscript a b pos) (FQ r ta tb):=by
  intro pins s σ H Q I h
  exact Subscript_ (Dp ha hb I h fun v u s2 x y H2 I2 rx ry q=>hr a b pins s2 σ H2 x y v u Q I2 rx ry q (hs _ _))
def G3(K:MS):R2:=fun x y H Q=>∃p xs i v,x=.ref p∧y=.int i∧gF K H p xs∧atI xs i=some v∧Q v H
def G4(K:MS):R2:=fun x y H Q=>∃p xs i v,x=.ref p∧y=.int i∧dN K H p xs∧atI xs i=some v∧Q v H
theorem vM:AE X (G3 X.K):=by
  intro value slice pins s σ H x y v u Q I rx ry h hs
  obtain⟨p,xs,i,z,rfl,rfl,hq,he,q⟩:=h
  cases rx
  obtain⟨t,rfl⟩:=ry
  obtain⟨its,r,pl,hz⟩:=I.list hq
  obtain⟨j,h1,h2,h3,h4,h5⟩:=vo he
  obtain⟨w,ew,rw'⟩:=r.get h2
  have hl:=r.length
  have hn:=uJ
  have fin:EP X pins σ Q w s:=⟨z,H,I,rw',q⟩
  by_cases h0:0≤i
  · have hj:i.toNat=j:=by
      rw [seqIndex_of h0 h5] at h1
      exact Og h1
    exact item_listR pl.isList h0 (by lia) (by rw [hj];simpa using ew) fin hs
  · have hj:(i+(its.toArray.size:Int)).toNat=j:=by
      rw [seqIndex_neg (by lia) h4] at h1
      rw [Nx,←hl]
      exact Og h1
    exact subscriptTail_builtinR (x:=w) pl.isList.typeIs slot_list_getitem.lookup
      (wpAny_getItem_list_neg (Q:=fun r s'=>r=w∧EP X pins σ Q r s') pl.isList (by lia) (by rw [Nx]<;>lia) (by lia) (by rw [hj];simpa using ew) ⟨rfl,fin⟩) hs
theorem DF:AE X (G4 X.K):=by
  intro value slice pins s σ H x y v u Q I rx ry h hs
  obtain⟨p,xs,i,z,rfl,rfl,hq,he,q⟩:=h
  cases rx
  obtain⟨t,rfl⟩:=ry
  obtain⟨its,r,pl,hz⟩:=I.tuple hq
  obtain⟨j,h1,h2,h3,h4,h5⟩:=vo he
  obtain⟨w,ew,rw'⟩:=r.get h2
  have hl:=r.length
  have hn:=uJ
  have fin:EP X pins σ Q w s:=⟨z,H,I,rw',q⟩
  exact subscriptTail_builtinR (x:=w) pl.typeIs Pn.lookup
    (getItem_tuple (j:=j) (Q:=fun r s'=>r=w∧EP X pins σ Q r s') pl (by lia) (by lia) (by rw [Nx,←hl];exact h1) (by simpa using ew) ⟨rfl,fin⟩) hs
theorem rN(lo hi:Option Int)(n:Nat):(Po lo hi none n).1=((HT.sIx n 0 lo:Nat):Int)∧(Po lo hi none n).2.1=((HT.sIx n n hi:Nat):Int)∧(Po lo hi none n).2.2=1:=by
  refine⟨?_,?_,rfl⟩
  · cases lo with
    | none=>simp [Po,HT.sIx]
    | some i=>
      simp only [Po,HT.sIx,Option.getD_none,show(1:Int) > 0 by decide,if_true]
      by_cases h:i < 0
      · simp only [h,if_true]<;>lia
      · simp only [h,if_false]<;>lia
  · cases hi with
    | none=>simp [Po,HT.sIx]
    | some i=>
      simp only [Po,HT.sIx,Option.getD_none,show(1:Int) > 0 by decide,if_true]
      by_cases h:i < 0
      · simp only [h,if_true]<;>lia
      · simp only [h,if_false]<;>lia
theorem pK(its:List Kg)(lo hi:Option Int):slicePick its.toArray lo hi none=((its.drop (HT.sIx its.length 0 lo)).take (HT.sIx its.length its.length hi - HT.sIx its.length 0 lo)).toArray:=by
  obtain⟨h1,h2,h3⟩:=rN lo hi its.toArray.size
  unfold slicePick
  rw [h1,h2,h3]
  simp only [sliceRange_one,pick_run,Nx]<;>rfl
def G6(K:MS):V→Option Int→Option Int→Hp→VK→Prop:=fun x lo hi H Q=>∃a xs,x=.ref a∧gF K H a xs∧∀p,H p=none→Q (.ref p) (bv H p (.lst (mG xs lo hi)))
theorem B7:Ap X (G6 X.K):=by
  intro pins s σ H x v vl vu lo hi sl Q I rx hs pl pu h
  obtain⟨a,xs,rfl,hx,q⟩:=h
  cases rx
  obtain⟨its,r,ht,hz⟩:=I.list hx
  have hlen:=r.length
  refine⟨"list",_,slot_list_getitem.lookup,ht.isList.typeIs,?_⟩
  refine wpAny_getItem_list_slice ht.isList hs pl pu .none (by simp) ?_ (by rw [Nx]<;>lia)
  rw [pK,←hlen]
  refine⟨.ref s.heap.objs.size,_,I.laid (t':=s.toks) (o:=.lst (mG xs lo hi)) (fun b ob q=>NH _ q) (Nn _) ?_,rfl,q _ (I.hok.fresh (Nn _))⟩
  exact⟨NG (l9 xs lo hi) hz,_,0,(r.drop (HT.sIx xs.length 0 lo)).take (HT.sIx xs.length xs.length hi - HT.sIx xs.length 0 lo),Oa _ rfl⟩
theorem qJ:cM X (.builtin "len") (fun xs H Q=>∃p ys,xs=[.ref p]∧(gF X.K H p ys∨dN X.K H p ys)∧Q (.int ys.length) H):=by
  intro pins s σ H xs us Q I r h
  obtain⟨p,ys,rfl,hq,q⟩:=h
  obtain⟨u,rfl,rx⟩:=qA r
  cases rx
  have hn:=uJ
  rcases hq with hq | hq
  · obtain⟨its,r',pl,hz⟩:=I.list hq
    have hlen:=r'.length
    exact Calls.call_len_list pl.isList (by simp only [Nx]<;>lia) ⟨.int ys.length,H,I.tok _,⟨s.toks+1,by rw [Nx,hlen]⟩,q⟩
  · obtain⟨its,r',pl,hz⟩:=I.tuple hq
    have hlen:=r'.length
    exact len_tuple pl (by simp only [Nx]<;>lia) ⟨.int ys.length,H,I.tok _,⟨s.toks+1,by rw [Nx,hlen]⟩,q⟩
theorem qK:cM X (.type "list") (fun xs H Q=>∃p ys,xs=[.ref p]∧(gF X.K H p ys∨dN X.K H p ys)∧∀l,H l=none→Q (.ref l) (bv H l (.lst ys))):=by
  intro pins s σ H xs us Q I r h
  obtain⟨p,ys,rfl,hq,q⟩:=h
  obtain⟨u,rfl,rx⟩:=qA r
  cases rx
  have fin:∀(its:List Kg),aP ys its→ys.length≤Nl→∀(h':MY) (c':Nat),(∀b o',s.heap.get? b=some o'→h'.get? b=some o')→
      h'.get? s.heap.objs.size=some {cls:=.type "list",dict:=none,data:=.seq its.toArray c',slots:=#[]}→EP X pins σ Q (.ref s.heap.objs.size) {s with heap:=h'}:=fun its r' hz h' c' kp e=>
    ⟨.ref s.heap.objs.size,_,I.laid (t':=s.toks) kp (Nn _) (show eM X.prog X.w _ h' _ (.lst ys) from⟨hz,its,c',r',e⟩),rfl,q _ (I.hok.fresh (Nn _))⟩
  rcases hq with hq | hq
  · obtain⟨its,r',pl,hz⟩:=I.list hq
    have hlen:=r'.length
    obtain⟨o,ho,hc,n,hd⟩:=pl.isList
    exact call_list_seq p (.inl rfl) ho hc hd (fun h' c' kp e=>fin its r' hz h' c' kp e) (by simp only [Nx]<;>lia)
  · obtain⟨its,r',pl,hz⟩:=I.tuple hq
    have hlen:=r'.length
    obtain⟨o,ho,hc,n,hd⟩:=pl
    exact call_list_seq p (.inr rfl) ho hc hd (fun h' c' kp e=>fin its r' hz h' c' kp e) (by simp only [Nx]<;>lia)
theorem pq:cM X (.type "tuple") (fun xs H Q=>∃p ys,xs=[.ref p]∧((gF X.K H p ys∧∀l,H l=none→Q (.ref l) (bv H l (.tup ys)))∨(dN X.K H p ys∧Q (.ref p) H))):=by
  intro pins s σ H xs us Q I r h
  obtain⟨p,ys,rfl,h⟩:=h
  obtain⟨u,rfl,rx⟩:=qA r
  cases rx
  rcases h with ⟨hq,q⟩ | ⟨hq,q⟩
  · obtain⟨its,r',pl,hz⟩:=I.list hq
    have hlen:=r'.length
    refine call_tuple_list pl.isList (fun h' kp=>?_) (by simp only [Nx]<;>lia)
    have I1:aC X pins σ H {s with heap:=h'}:=I.kept (t':=s.toks) kp
    have I2:aC X pins σ (bv H h'.objs.size (.tup ys)) {s with heap:=h'.push {cls:=.type "tuple",data:=.seq its.toArray}}:=
      I1.laid (t':=s.toks) (fun b o e=>NH _ e) (Nn _) (show eM X.prog X.w _ _ _ (.tup ys) from⟨hz,its,r',qB.new _ _⟩)
    exact⟨.ref h'.objs.size,_,I2,rfl,q _ (I1.hok.fresh (Nn _))⟩
  · obtain⟨its,r',pl,hz⟩:=I.tuple hq
    exact call_tuple_same pl ⟨.ref p,H,I,rfl,q⟩
def Jc(K:MS)(T:String)(x:V)(H:Hp):Prop:=match x with
  | .str _=>T="str"
  | .int _=>T="int"
  | .ref p=>(T="list"∧∃xs,gF K H p xs)∨(T="tuple"∧∃o,K.lookup p=some o∧o.cls=.type "tuple"∧o.dict=none)∨
      (T="dict"∧((∃kvs,H p=some (.dK kvs))∨∃kvs,H p=some (.dT kvs)))∨(T="set"∧∃S n,H p=some (.set S n))
  | _=>False
theorem Aj{pins:List (xM × Obj)}{σ:St}{H:Hp}{s:MP}{T:String}{x:V}{v:Kg}(I:aC X pins σ H s)(r:bF x v)(ty:Jc X.K T x H):
    s.TypeIs v T∧∀a,v=.ref a→∃ob,s.heap.get? a=some ob∧ob.dict=none:=by
  cases x with
  | str z=>
    obtain⟨t,rfl⟩:=r
    cases (show T="str" from ty)
    exact⟨typeIs_str s z t,fun _ e=>nomatch e⟩
  | int i=>
    obtain⟨t,rfl⟩:=r
    cases (show T="int" from ty)
    exact⟨PY s i t,fun _ e=>nomatch e⟩
  | ref p=>
    cases r
    rcases ty with ⟨rfl,xs,hq⟩ | ⟨rfl,o,hk,hc,hd⟩ | ⟨rfl,hk⟩ | ⟨rfl,S,n,hk⟩
    · obtain⟨its,_,pl,_⟩:=I.list hq
      refine⟨pl.isList.typeIs,fun a e=>?_⟩
      cases e
      obtain⟨o,n,e,c,hd,_⟩:=pl
      exact⟨o,e,hd⟩
    · refine⟨⟨o,I.kIn p o hk,hc⟩,fun a e=>?_⟩
      cases e
      exact⟨o,I.kIn _ o hk,hd⟩
    · have z:∃o,s.heap.get? p=some o∧o.ExactDict:=by
        rcases hk with ⟨kvs,hk⟩ | ⟨kvs,hk⟩
        · obtain⟨_,_,_,_,o,_,_,e,ex,_⟩:=I.hok p _ hk
          exact⟨o,e,ex⟩
        · obtain⟨_,_,_,_,o,_,_,e,ex,_⟩:=I.hok p _ hk
          exact⟨o,e,ex⟩
      obtain⟨o,e,ex⟩:=z
      refine⟨⟨o,e,ex.1⟩,fun a e2=>?_⟩
      cases e2
      exact⟨o,e,ex.2.1⟩
    · obtain⟨o,_,_,_,e,ex,_⟩:=I.hok p _ hk
      refine⟨⟨o,e,ex.1⟩,fun a e2=>?_⟩
      cases e2
      exact⟨o,e,ex.2.1⟩
  | _=>exact Oo ty
def IT(K:MS)(T:String)(r:V→List V→Hp→VK→Prop)(to:TE):TE:=fun σ H Q=>to σ H fun x H1=>Jc K T x H1∧r x [] H1 Q
def JB(K:MS)(T:String)(r:V→List V→Hp→VK→Prop)(to:TE)(t:TA):TE:=fun σ H Q=>to σ H fun x H1=>Jc K T x H1∧t σ H1 fun xs H2=>r x xs H2 Q
variable{o e:MU}{es:List MU}{to:TE}{t:TA}{name:Str}{apos cpos:Pos}{T id:String}{r:V→List V→Hp→VK→Prop}
theorem ze(pa:PlainAttrs T)(slot:Slot T name id)(hty:typeOf (.builtin id)=pure (.type "method_descriptor"))(hm:Di X id r)(ho:PE X o to)
    (hbase:Oh o name X.env (Nh o X.env)=Nh o X.env:=by rfl)(hline:(apos.endLine==cpos.line)=true:=by rfl):PE X (.Call (.Attribute o name apos) [] [] cpos) (IT X.K T r to):=by
  intro pins s σ H Q I h
  refine wpAny_Call_method0_late hbase hline (cw (ho pins s σ H _ I h) fun v s1 ⟨x,H1,I1,r1,ty,q1⟩=>?_)
  obtain⟨h1,h2⟩:=Aj I1 r1 ty
  exact⟨T,id,pa,slot,hty,h1,h2,Calls.callWith_builtin rfl (PySem.evalArgs_none (hm pins s1 σ H1 x [] v [] Q I1 r1 .nil q1))⟩
theorem zc(pa:PlainAttrs T)(slot:Slot T name id)(hty:typeOf (.builtin id)=pure (.type "method_descriptor"))(hm:Di X id r)(ho:PE X o to)(ha:PA X (e::es) t)
    (hbase:Oh o name X.env (Nh o X.env)=Nh o X.env:=by rfl)
    (hfew:((Nr cpos (Nf (e::es) X.env)).all (fun x=> !x.1)&&(OF cpos (OG [] X.env)).all (fun x=>x.1.isSome)
      &&decide ((e::es).length+([]:List NV).length+(if ([]:List NV).isEmpty then 0 else 1) < 30))=true:=by rfl)
    (hline:(apos.endLine==cpos.line)=true:=by rfl)(hs:Nf (e::es) X.env=(false,Nh e X.env)::Nf es X.env:=by rfl)(hplain:(Nr cpos (Nf es X.env)).any (·.1)=false:=by rfl):
    PE X (.Call (.Attribute o name apos) (e::es) [] cpos) (JB X.K T r to t):=by
  intro pins s σ H Q I h
  refine wpAny_Call_method_late hbase hfew hline rfl (cw (ho pins s σ H _ I h) fun v s1 ⟨x,H1,I1,r1,ty,q1⟩=>?_)
  obtain⟨h1,h2⟩:=Aj I1 r1 ty
  refine⟨T,id,pa,slot,hty,h1,h2,?_⟩
  have hA:=ha cpos pins s1 σ H1 _ I1 q1
  rw [hs] at hA ⊢
  refine Calls.callWith_builtin (by show(false || (Nr cpos (Nf es X.env)).any (·.1))=false;rw [hplain]<;>rfl) (Calls.evalArgs_plain ?_)
  exact cw hA fun us s2 ⟨vs,H2,I2,r2,q2⟩=>hm pins s2 σ H2 x vs v us Q I2 r1 r2 q2
end
def HF(X:Cx)(id:String)(r:V→List V→Hp→VK→Prop):Prop:=
  ∀(pins:List (xM × Obj)) (s:MP) (σ:St) (H:Hp) (x:V) (xs:List V) (v:Kg) (us:List Kg) (Q:VK),aC X pins σ H s→bF x v→aP xs us→r x xs H Q→
    Nc (Ng X.prog X.w) X.A (call (.builtin id) (v::us)) (EP X pins σ Q) X.xe s
theorem aP.one:∀{x:V} {us:List Kg},aP [x] us→∃u,us=[u]∧bF x u
  | _,_,.cons r .nil=>⟨_,rfl,r⟩
theorem aP.zero:∀{us:List Kg},aP [] us→us=[]
  | _,.nil=>rfl
theorem aP.dropLast{xs:List V}{us:List Kg}(h:aP xs us):aP xs.dropLast us.dropLast:=by
  induction h with
  | nil=>exact .nil
  | cons r t ih=>
    cases t with
    | nil=>exact .nil
    | cons q t'=>exact .cons r ih
theorem aP.eraseIdx:∀{xs:List V} {us:List Kg} (i:Nat),aP xs us→aP (xs.eraseIdx i) (us.eraseIdx i)
  | _,_,_,.nil=>.nil
  | _,_,0,.cons _ t=>t
  | _,_,i+1,.cons r t=>.cons r (aP.eraseIdx i t)
theorem aP.rep{xs:List V}{us:List Kg}(h:aP xs us):∀k:Nat,aP (Nk k xs).flatten (Nk k us).flatten
  | 0=>.nil
  | k+1=>by
    rw [Pa,Pa,Qm,Qm]
    exact aP.append h (aP.rep h k)
theorem uy{α:Type}(l:List α):l.eraseIdx (l.length - 1)=l.dropLast:=by
  induction l with
  | nil=>rfl
  | cons a r ih=>
    cases r with
    | nil=>rfl
    | cons b r=>
      have e:(a::b::r).length - 1=((b::r).length - 1)+1:=by
        have h1:(a::b::r).length=r.length+2:=rfl
        have h2:(b::r).length=r.length+1:=rfl
        lia
      rw [e,List.eraseIdx_cons_succ,ih]
      all_goals rfl
theorem p6{α:Type}:∀(l:List α) (i:Nat),(l.eraseIdx i).length≤l.length
  | [],_=>Nn _
  | _::_,0=>Nat.le_succ _
  | _::r,i+1=>Nat.succ_le_succ (p6 r i)
theorem pY(its:List Kg):∀(k:Nat) (acc:List Kg),
    PH (fun x1 x2=>x1++x2) acc.toArray (Nk k its.toArray)=(acc++(Nk k its).flatten).toArray
  | 0,acc=>by simp
  | k+1,acc=>by
    have e:acc.toArray++its.toArray=(acc++its).toArray:=by simp
    have e2:(acc++its)++(Nk k its).flatten=acc++(Nk (k+1) its).flatten:=by
      rw [Pa,Qm,List.append_assoc]
    rw [←e2,←pY its k (acc++its),←e,Pa,List.foldl_cons]
section
variable{X:Cx}{pins:List (xM × Obj)}{σ:St}{H:Hp}{s:MP}{l b:xM}{xs ys zs:List V}
theorem aC.lset{its its':List Kg}{n:Nat}{f:Array Kg→Array Kg}{t':Nat}(I:aC X pins σ H s)(hH:H l=some (.lst xs))
    (e:s.heap.get? l=some {cls:=.type "list",data:=.seq its.toArray n})(hf:f its.toArray=its'.toArray)(hv:aP ys its')(hz:ys.length≤Nl):
    aC X pins σ (bv H l (.lst ys)) {s with heap:=s.heap.update l (Pp f),toks:=t'}:=by
  have q:=PySem.IsL.update e f
  rw [hf] at q
  refine I.write (x:=l) (e:=l) (by rw [hH];exact trivial) (.inl rfl) (fun b' u hb hu=>(Heap.get?_update_other s.heap (Pp f) (Ny hb)).trans hu) ⟨_,q⟩ ?_
  exact⟨hz,its',_,hv,q⟩
theorem aC.lnew{its:List Kg}{t':Nat}(I:aC X pins σ H s)(hv:aP ys its)(hz:ys.length≤Nl):
    aC X pins σ (bv H s.heap.objs.size (.lst ys)) {s with heap:=s.heap.push {cls:=.type "list",data:=.seq its.toArray},toks:=t'}:=
  I.laid (fun _ _ q=>NH _ q) (Nn _) ⟨hz,its,0,hv,Oa _ rfl⟩
theorem aC.fresh(I:aC X pins σ H s):H s.heap.objs.size=none:=I.hok.fresh (Nn _)
theorem aC.lstM(I:aC X pins σ H s)(hH:H l=some (.lst xs)):xs.length≤Nl∧∃(its:List Kg) (n:Nat),aP xs its∧xs.length=its.length∧s.heap.get? l=some {cls:=.type "list",data:=.seq its.toArray n}:=by
  obtain⟨z,its,n,r,e⟩:=I.hok l _ hH
  exact⟨z,its,n,r,r.length,e⟩
theorem yY{n:Nat}(h:n≤Nl):QL n=false:=by
  unfold QL
  exact decide_eq_false (by lia)
end
section
variable{X:Cx}
def we:V→List V→Hp→VK→Prop:=fun x vs H Q=>∃l xs y,x=.ref l∧vs=[y]∧H l=some (.lst xs)∧xs.length < Nl∧Q .non (bv H l (.lst (xs++[y])))
theorem qd:HF X "list.append" we:=by
  intro pins s σ H x vs v us Q I rx rv h
  obtain⟨l,xs,y,rfl,rfl,hH,hz,q⟩:=h
  cases rx
  obtain⟨u,rfl,ru⟩:=rv.one
  obtain⟨z,its,n,r,hl,e⟩:=I.lstM hH
  refine Ow F.slot_list_append ⟨_,e,rfl⟩ F.entry_list_append (F.args_list_append_2 _ _) (PySem.list_append l its.toArray n u (by rw [Nx];lia)) ⟨e,?_⟩
  refine⟨.non,_,I.lset (its':=its++[u]) hH e (by simp) (r.append (.cons ru .nil)) ?_,rfl,q⟩
  rw [PV,List.length_singleton]
  lia
def G5:V→List V→Hp→VK→Prop:=fun x vs H Q=>∃l xs y,x=.ref l∧vs=[]∧H l=some (.lst xs)∧xs[xs.length - 1]?=some y∧Q y (bv H l (.lst xs.dropLast))
theorem Ed:HF X "list.pop" G5:=by
  intro pins s σ H x vs v us Q I rx rv h
  obtain⟨l,xs,y,rfl,rfl,hH,hy,q⟩:=h
  cases rx
  have hus:=rv.zero
  subst hus
  obtain⟨z,its,n,r,hl,e⟩:=I.lstM hH
  obtain⟨u,hu,ru⟩:=r.get hy
  have hy':its.toArray[its.toArray.size - 1]?=some u:=by
    show its.toArray[its.length - 1]?=some u
    rw [←Array.getElem?_toList,←hl]
    exact hu
  refine Ow Qn ⟨_,e,rfl⟩ F.entry_list_pop (F.args_list_pop_1 _) (MeetsSeq.list_pop_last l its.toArray n u hy' (by rw [Nx];lia)) ⟨e,?_⟩
  refine⟨y,_,I.lset (its':=its.dropLast) hH e ?_ r.dropLast ?_,ru,q⟩
  · show its.toArray.eraseIdxIfInBounds (its.toArray.size - 1)=its.dropLast.toArray
    rw [Nx,List.eraseIdxIfInBounds_toArray,uy]
  · rw [List.length_dropLast]
    lia
def zO:V→List V→Hp→VK→Prop:=fun x vs H Q=>∃l xs i k y,x=.ref l∧vs=[.int i]∧H l=some (.lst xs)∧ -(2 ^ 63)≤i∧i < 2 ^ 63∧seqIndex? i xs.length=some k∧xs[k]?=some y∧Q y (bv H l (.lst (xs.eraseIdx k)))
theorem yP:HF X "list.pop" zO:=by
  intro pins s σ H x vs v us Q I rx rv h
  obtain⟨l,xs,i,k,y,rfl,rfl,hH,h1,h2,hk,hy,q⟩:=h
  cases rx
  obtain⟨u,rfl,ru⟩:=rv.one
  obtain⟨t,rfl⟩:=ru
  obtain⟨z,its,n,r,hl,e⟩:=I.lstM hH
  obtain⟨w,hw,rw'⟩:=r.get hy
  refine Ow Qn ⟨_,e,rfl⟩ F.entry_list_pop (F.args_list_pop_2 _ _)
    (MeetsSeq.list_pop_at l its.toArray n i t k w (fitsIndex_both h1 h2) (by rw [Nx,←hl];exact hk) (by rw [←Array.getElem?_toList];exact hw) (by rw [Nx];lia)) ⟨e,?_⟩
  refine⟨y,_,I.lset (its':=its.eraseIdx k) hH e ?_ (r.eraseIdx k) ?_,rw',q⟩
  · show its.toArray.eraseIdxIfInBounds k=(its.eraseIdx k).toArray
    rw [List.eraseIdxIfInBounds_toArray]
  · have:=p6 xs k
    lia
def zM:V→List V→Hp→VK→Prop:=fun x vs H Q=>∃l xs,x=.ref l∧vs=[]∧H l=some (.lst xs)∧Q .non (bv H l (.lst []))
theorem yO:HF X "list.clear" zM:=by
  intro pins s σ H x vs v us Q I rx rv h
  obtain⟨l,xs,rfl,rfl,hH,q⟩:=h
  cases rx
  have hus:=rv.zero
  subst hus
  obtain⟨z,its,n,r,hl,e⟩:=I.lstM hH
  refine Ow F.slot_list_clear ⟨_,e,rfl⟩ F.entry_list_clear (F.args_list_clear_1 _) (AutoSeq1.list_clear_list_0 l its.toArray n (by rw [Nx];lia)) ⟨e,?_⟩
  exact⟨.non,_,I.lset (its':=[]) (ys:=[]) hH e rfl .nil (ON _),rfl,q⟩
def E3:R2:=fun x y H Q=>∃l b xs zs,x=.ref l∧y=.ref b∧H l=some (.lst xs)∧H b=some (.lst zs)∧xs.length+zs.length≤Nl∧∀p,H p=none→Q (.ref p) (bv H p (.lst (xs++zs)))
theorem Es:gf X (NM .Add) E3:=by
  intro pins s σ H x y v u Q I rx ry h
  obtain⟨l,b,xs,zs,rfl,rfl,hH,hB,hz,q⟩:=h
  cases rx
  cases ry
  obtain⟨z,its,n,r,hl,e⟩:=I.lstM hH
  obtain⟨z2,its2,n2,r2,hl2,e2⟩:=I.lstM hB
  refine PySem.P.add_list e e2 ?_ (by rw [Nx,Nx];lia)
  have ea:its.toArray++its2.toArray=(its++its2).toArray:=by simp
  rw [ea]
  exact⟨.ref _,_,I.lnew (t':=s.toks) (r.append r2) (by rw [PV];lia),rfl,q _ I.fresh⟩
def E8:R2:=fun x y H Q=>∃l k xs,x=.ref l∧y=.int k∧H l=some (.lst xs)∧ -(2 ^ 63)≤k∧k < 2 ^ 63∧xs.length*k.toNat≤Nl∧
  ∀p,H p=none→Q (.ref p) (bv H p (.lst (Nk k.toNat xs).flatten))
theorem Bf{α:Type}(xs:List α)(k:Nat):(Nk k xs).flatten.length=k*xs.length:=by
  induction k with
  | zero=>simp
  | succ k ih=>rw [Pa,Qm,PV,ih,Nat.succ_mul,Nat.add_comm]
theorem EC:gf X (NM .Mult) E8:=by
  intro pins s σ H x y v u Q I rx ry h
  obtain⟨l,k,xs,rfl,rfl,hH,h1,h2,hz,q⟩:=h
  cases rx
  obtain⟨t,rfl⟩:=ry
  obtain⟨z,its,n,r,hl,e⟩:=I.lstM hH
  have hlen:its.toArray.size*k.toNat≤Nl:=by rw [Nx,←hl];exact hz
  have hcap:¬its.toArray.size*k.toNat > (2 ^ 63 - 1) / 8:=by
    have:(Nl:Nat)≤(2 ^ 63 - 1) / 8:=by decide
    lia
  have hfit:¬(!Builtin.List.listFitsIndex k)=true:=by
    rw [fitsIndex_both h1 h2]
    exact Pl
  have hlong:¬QL (its.toArray.size*k.toNat)=true:=by
    rw [yY hlen]
    exact Pl
  have hnew:PH (fun x1 x2=>x1++x2) #[] (Nk (if its.toArray.isEmpty=true then 0 else k.toNat) its.toArray)=(Nk k.toNat its).flatten.toArray:=by
    have f0:∀m:Nat,PH (fun x1 x2=>x1++x2) #[] (Nk m its.toArray)=(Nk m its).flatten.toArray:=fun m=>by
      have:=pY its m []
      rw [Pb] at this
      exact this
    rw [f0]
    cases its with
    | nil=>simp
    | cons a r'=>rw [if_neg (by simp)]
  refine wpAny_binaryOp_repeat_ref (T:="list") (U:="int") (by decide) ⟨_,e,rfl⟩ (fun s'=>PY s' k t) noFill_list_mul F.fills_int_mul Qo repeat_list F.slot_int_index.lookup
    (Ow Qo (PY s k t) F.entry_int_rmul (F.args_int_rmul_2 _ _) (int___rmul___int_list k t l its.toArray n)
      ⟨e,rfl,⟨_,e,rfl⟩,Ow F.slot_list_mul ⟨_,e,rfl⟩ F.entry_list_mul (F.args_list_mul_2 _ _) (AutoListH.list___mul___list_int_3 l its.toArray n k t hfit hcap hlong) ⟨e,?_⟩⟩)
  rw [hnew]
  exact⟨.ref _,_,I.lnew (t':=s.toks) (r.rep k.toNat) (by rw [Bf,Nat.mul_comm];exact hz),rfl,q _ I.fresh⟩
end
section
variable{prog:MZ}{w:MV}{A:Nb}{E:Kg→MP→Prop}{s:MP}
end
section
variable{X:Cx}
end
end L2
namespace Att
open PySem PySem.W PySem.Calls PyProof.Rows
theorem mH{P:Params}{h:MY}:∀(ns:List Int) (vs:List Kg),WellAll P h vs (ns.map WData.int)→OO vs ns:=by
  intro ns
  induction ns with
  | nil=>
    intro vs w
    rw [Oe] at w
    cases w
    exact .nil
  | cons n ns ih=>
    intro vs w
    rw [ND] at w
    cases w with
    | cons a b=>
      cases a
      exact .cons _ _ (ih _ b)
theorem xE{l:OpenLaw}{n:Nat}(hn:l.most=some n){P:Params}{h:MY}{args:List WData}{vals:List Kg}
    (hpre:l.row.toRowW.claim.pre args=true)(hwl:WellAll P h vals args):
    ∃a vs ns,vals=[Value.ref a]∧args=[WData.list (ns.map WData.int)]∧h.get? a=some {cls:=.type "list",data:=.seq vs.toArray}∧OO vs ns∧ns.length≤n:=by
  have hsh:WShape.hasAll [] args [.list .int]=true:=(pre_splitW hpre).1
  have hc:l.pre.holds [] {args:=args}=true:=(pre_splitW hpre).2
  obtain⟨d,r,rfl,h1,h2⟩:=hasAllW_cons hsh
  obtain rfl:=hasAllW_nil h2
  obtain⟨xs,rfl,h3⟩:=hasW_list h1
  obtain⟨ns,rfl⟩:=items_int h3
  have hlen:ns.length≤n:=by
    unfold OpenLaw.pre at hc
    have h4:(WTm.not (.lt (.lit (.int (n:Int))) (.len (.arg 0)))).holds [] {args:=[.list (ns.map .int)]}=true:=by
      have h4:=(holds_andW hc).1
      rw [hn] at h4
      exact h4
    have h5:=condW_of h4 (w_not (w_lt w_lit (w_len_list (w_arg rfl))))
    rw [NC] at h5
    refine Nat.le_of_not_lt fun q=>?_
    have q':(n:Int) < ((ns.length:Nat):Int):=by lia
    first
      | (rw [decide_eq_true q'] at h5;exact absurd h5 (by decide))
      | (simp at h5;lia)
  cases hwl with
  | cons w1 w2=>
    cases w2
    cases w1 with
    | list ho hall=>exact⟨_,_,ns,rfl,rfl,ho,mH ns _ hall,hlen⟩
theorem xA(l:OpenLaw)(args:List WData):l.row.toRowW.claim.post args (.bool true) args=true:=
  postW_of (r:=l.row.toRowW) (X:=(true==true))
    (show WShape.has [] (.bool true) .bool=true by first | rfl | decide | simp [WShape.has,WShape.arms,WShape.armsAll])
    (show(WTm.eq .res (.lit (.bool true))).value [] {args:=args,res:=some (.bool true),after:=args}=some (.bool (true==true)) from w_eq_bool (w_res rfl) w_lit) rfl
theorem attach_call{l:OpenLaw}{n:Nat}{q:MZ}{loose:List Str}{XP:(Str→Option Kg)→MY→Prop}{YP:MV→MY→Prop}{d:DefRec}
    (hn:l.most=some n)(hdf:d.params.defaults=[])
    (call:∀(w:MV) (s₀ s₁:MP) (mg mb:Str→Option Kg) (fa:xM) (o:Obj) (pm cd doc:Kg) (a:xM) (vs:List Kg) (ns:List Int),
      Ground q loose [] XP w s₀ mg mb s₁.heap→YP w s₁.heap→
      s₁.heap.get? fa=some o→o.data=.func (docDef d.name d.params d.body d.scope pm cd doc)→s₁.heap.CodeRec cd d.name→mg d.name=some (.ref fa)→
      s₁.heap.get? a=some {cls:=.type "list",data:=.seq vs.toArray}→OO vs ns→ns.length≤n→s₁.gens=#[]→
      codeAny (Ng l.prog w) callerA (.call (.ref fa) ⟨[.ref a],[]⟩) (fun r s'=>r=.ok (.ret (.bool true))∧OldK s₁.heap s'.heap∧s'.os=s₁.os∧AllBare s'.gens) s₁):
    WalkO q loose XP YP l.row.toRowW d [] (fun f vs=>PySem.call f vs):=by
  intro w s₀ s₁ mg mb G Y fa o pm cd doc dV kV ho hd hcd hD hmg hg args vals as hpre hlay hrd hwl hlo
  obtain rfl:dV=.none:=Dflts.none hD hdf
  obtain rfl:kV=.none:=Dflts.noKw hD
  obtain⟨a,vs,ns,rfl,rfl,hobj,hints,hlen⟩:=xE hn hpre hwl
  refine enter_call (codeAny_mono (call w s₀ s₁ mg mb fa o pm cd doc a vs ns G Y ho (fd_plain hd) hcd hmg hobj hints hlen hg) fun r s' hq=>?_)
  obtain⟨rfl,h2,h3,h4⟩:=hq
  exact⟨.inl ⟨.bool true,.bool true,[],rfl,fun _=>rfl,.bool true,xA l _,fun _=>⟨List.Pairwise.nil,fun _ hm=>(nomatch hm)⟩⟩,h2,h3,h4⟩
section
variable{prog:MZ}{w:MV}{A:Nb}{E:Kg→MP→Prop}{s:MP}{K:Frag}
end
end Att
namespace L2
open PySem PySem.Spec PyProof.Rows
theorem lY:∀{vs:List Kg} {ns:List Int},OO vs ns→aP (ns.map V.int) vs
  | _,_,.nil=>.nil
  | _,_,.cons n t h=>.cons ⟨t,rfl⟩ (lY h)
def Dj(H:Hp):Prop:=∀b,H b=none∨∃o xs,H b=some (.frz o (.lst xs))
theorem yG{P:MZ}{w:MV}{K:MS}{mg mb:Str→Option Kg}{CX:rX}{k:Nat}{fa a:xM}{fd:Nj}{x:Str}{sp:Sp}{s₁:MP}{vs:List Kg}{ns:List Int}
    (KX:K.In s₁.heap)(hns:s₁.heap.Ns NA mg)(hb:s₁.heap.Ns builtinsNs mb)(hbb:∀x:Str,x≠"__name__"→mb x=OA x)(hlim:s₁.heap.NoLimit)(hg:s₁.gens=#[])
    (ha:s₁.heap.get? a=some {cls:=.type "list",data:=.seq vs.toArray})(hi:OO vs ns)(hl:ns.length≤Nl)(hr:bI k callerA)
    (F:∀base:MY,K.In base→base.Ns NA mg→aA P w K mg base CX k fa fd [x] sp)(hbind:∀(s:MP) (u:Kg),BindsTo s fd ⟨[u],[]⟩ [(x,u)])
    (hsp:∀H:Hp,Dj H→gF K H a (ns.map V.int)→sp [.ref a] H (fun v _=>v=.bl true) fun _ _ _=>False)
    (hCX:∀H e s',CX [] H s₁ (fun _ _ _=>False) e s'→False):
    codeAny (Ng P w) callerA (.call (.ref fa) ⟨[.ref a],[]⟩) (fun r s'=>r=.ok (.ret (.bool true))∧OldK s₁.heap s'.heap∧s'.os=s₁.os∧AllBare s'.gens) s₁:=by
  have rv:=lY hi
  have lenV:=hi.length
  have core:∀H:Hp,Dj H→gF K H a (ns.map V.int)→mF P w H s₁.heap→(∀b,H b≠none→b=a)→(H a≠none→K.lookup a=none)→
      codeAny (Ng P w) callerA (.call (.ref fa) ⟨[.ref a],[]⟩) (fun r s'=>r=.ok (.ret (.bool true))∧OldK s₁.heap s'.heap∧s'.os=s₁.os∧AllBare s'.gens) s₁:=by
    intro H hO hS hok hA hK
    have base_of:∀{b:xM} {o:Obj},s₁.heap.get? b=some o→H b=none→(qT s₁.heap H).get? b=some o:=fun e n=>yz e n
    have noA:∀{b:xM} {o:Obj} {es:Array Pe} {ep:Nat},s₁.heap.get? b=some o→o.data=.dict es ep→H b=none:=fun{b o es ep} e d=>by
      cases q:H b with
      | none=>rfl
      | some u=>
        have e':b=a:=hA b (by rw [q];simp)
        subst e'
        rw [ha] at e;cases e
        have d':Data.seq vs.toArray _=Data.dict es ep:=d
        cases d'
    have nsK:∀{b:xM} {m:Str→Option Kg},s₁.heap.Ns b m→(qT s₁.heap H).Ns b m:=fun{b m} ⟨o,es,ep,e,d,r⟩=>⟨o,es,ep,base_of e (noA e d),d,r⟩
    have hKb:K.In (qT s₁.heap H):=fun b o e=>base_of (KX b o e) (by
      cases q:H b with
      | none=>rfl
      | some u=>
        have e':b=a:=hA b (by rw [q];simp)
        subst e'
        rw [hK (by rw [q];simp)] at e;cases e)
    have hM:Mod K mg (qT s₁.heap H):=⟨hKb,nsK hns,⟨mb,nsK hb,hbb⟩,let ⟨mc,h1,h2⟩:=hlim;⟨mc,nsK h1,h2⟩⟩
    have e0:uk P w K mg (qT s₁.heap H) callerA [] s₁ H:=⟨rfl,hM,fun b o e=>Bp e,Nat.le_of_eq (xf _ _),trivial,fun b hb=>absurd (show b∈([]:List xM) from hb) (by simp),hok,.of_eq hg⟩
    refine codeAny_mono ((F _ hKb (nsK hns)).run callerA [] s₁ H ⟨[.ref a],[]⟩ [.ref a] [.ref a] _ _ hr e0 (hbind s₁ (.ref a)) (.cons rfl .nil) (hsp H hO hS)) fun r s' h=>?_
    cases r with
    | error e=>exact(hCX H e s' h).elim
    | ok fl=>
      cases fl with
      | next=>exact Oo h
      | brk=>exact Oo h
      | cont=>exact Oo h
      | ret u=>
        obtain⟨v,H',os,bare,un,hok',r',q⟩:=h
        have q':v=.bl true:=q
        subst q'
        obtain rfl:u=Value.bool true:=r'
        refine⟨rfl,OldK.of_keep fun b o e=>?_,os,bare⟩
        cases q:H b with
        | none=>exact un.keep b o e q (by intro z;exact absurd (show b∈([]:List xM) from z) (by simp)) (by simp)
        | some u=>
          rcases hO b with z | ⟨ob,xs,z⟩
          · rw [q] at z;cases z
          · have z2:=un.frzs b ob _ z
            obtain⟨e1,_⟩:=hok b _ z
            obtain⟨e2,_⟩:=hok' b _ z2
            rw [e] at e1;cases e1
            exact e2
  cases hk:K.lookup a with
  | some o=>
    have e:=KX a o hk
    rw [ha] at e
    cases e
    refine core (fun _=>none) (fun _=>.inl rfl) (.inr ⟨_,vs.toArray,_,hk,rfl,rfl,rfl,by rw [Nx,lenV];exact hl,by simpa using rv⟩) (fun b u z=>by have z':(none:Option HO)=some u:=z;cases z') (fun b z=>absurd rfl z) fun z=>absurd rfl z
  | none=>
    refine core (fun b=>if b=a then some (.frz {cls:=.type "list",data:=.seq vs.toArray} (.lst (ns.map V.int))) else none) (fun b=>?_) (.inl (.inr ⟨{cls:=.type "list",data:=.seq vs.toArray},if_pos rfl⟩)) (fun b u z=>?_) (fun b z=>?_) fun _=>hk
    · by_cases hb:b=a
      · exact .inr ⟨_,_,if_pos hb⟩
      · exact .inl (if_neg hb)
    · by_cases hb:b=a
      · have z':=(if_pos hb).symm.trans z
        cases z'
        subst hb
        exact⟨ha,by rw [NC];exact hl,vs,_,rv,ha⟩
      · have z':=(if_neg hb).symm.trans z
        cases z'
    · by_cases hb:b=a
      · exact hb
      · exact absurd (if_neg hb) z
theorem walk_of{l:PySem.W.OpenLaw}{n k:Nat}{q:MZ}{loose:List Str}{XP:(Str→Option Kg)→MY→Prop}{YP:MV→MY→Prop}{d:DefRec}{K:Params→MS}{CX:MV→rX}{sp:MV→Sp}{x:Str}
    (hn:l.most=some n)(hn2:n≤Nl)(hdf:d.params.defaults=[])(hr:bI k callerA)
    (hY:∀(w:MV) (h:MY),YP w h→(K w.params).In h)
    (F:∀(w:MV) (mg:Str→Option Kg) (fa:xM) (h:MY),(K w.params).In h→h.Ns NA mg→mg d.name=some (.ref fa)→
      ∃fd:Nj,(∀(s:MP) (u:Kg),BindsTo s fd ⟨[u],[]⟩ [(x,u)])∧
        ∀base:MY,(K w.params).In base→base.Ns NA mg→aA l.prog w (K w.params) mg base (CX w) k fa fd [x] (sp w))
    (hsp:∀(w:MV) (H:Hp) (a:xM) (ns:List Int),ns.length≤n→Dj H→gF (K w.params) H a (ns.map V.int)→sp w [.ref a] H (fun v _=>v=.bl true) fun _ _ _=>False)
    (hCX:∀(w:MV) (H:Hp) (s:MP) (e:Kg) (s':MP),CX w [] H s (fun _ _ _=>False) e s'→False):
    PySem.W.WalkO q loose XP YP l.row.toRowW d [] (fun f vs=>PySem.call f vs):=by
  refine Att.attach_call hn hdf fun w s₀ s₁ mg mb fa o pm cd doc a vs ns G Y ho hd hcd hmg hobj hints hlen hg=>?_
  have KX:=hY w _ Y
  obtain⟨fd,hb,hF⟩:=F w mg fa _ KX G.T.g hmg
  exact yG KX G.T.g G.T.b G.T.builtins G.T.nolimit hg hobj hints (NG hlen hn2) hr hF hb (fun H hO hS=>hsp w H a ns hlen hO hS) fun H e s'=>hCX w H s₁ e s'
abbrev bY:rX:=fun _ _ _ _ _ _=>False
abbrev E0:XK:=fun _ _ _=>False
theorem tK{X:Cx}:jV bY X E0:=fun _ _ _ _ _ _ _ h=>h.elim
structure rS (K:MS) (x qual:Str) (st:Na) (f:xM) (fd:Nj):Prop where
  ex:∃(oc:Kg) (od:Option xM) (kV doc pm:Kg) (an:Option xM) (cdv ct:Kg) (osl:Array (Option Kg)),
    fd=Ol x qual (cU st) (cc st) (ag st) .none kV doc pm an cdv ct∧K.lookup f=some ⟨oc,od,.func fd,osl⟩∧PX K cdv qual=true
  kp:OY K (.ref f)=true
section
variable{P:MZ}{w:MV}{K:MS}{mg:Str→Option Kg}{base:MY}
theorem rS.ok{x qual:Str}{st:Na}{f:xM}{fd:Nj}{N ps:List Str}{k:Nat}{sp:Sp}(F:rS K x qual st f fd)(S:au N ps (ag st))(len:∀vs H Q E,sp vs H Q E→vs.length=ps.length)
    (hbody:∀(cdv:Kg) (A:Nb) (outer:List Env) (s:MP) (H:Hp) (vs:List V) (Q:VK) (E:XK),bI k (A.deeper (envOfC qual (ag st) s.heap.objs.size f cdv))→sp vs H Q E→
      ∃t,i0 (sy bY P w K mg base N qual (ag st) f cdv A outer s H E).nox (cc st) t∧t {nx:=fun _ H'=>Q .non H',rt:=Q} (gw N vs) H):aA P w K mg base bY (k+1) f fd ps sp:=by
  obtain⟨oc,od,kV,doc,pm,an,cdv,ct,osl,rfl,lk,hcd⟩:=F.ex
  refine Ga lk hcd S len fun A outer s H vs Q E hr hsp=>?_
  obtain⟨t,h,q⟩:=hbody cdv A outer s H vs Q E hr hsp
  exact⟨t,h.nox,q⟩
theorem rS.binds{x qual:Str}{st:Na}{f:xM}{fd:Nj}{ps:List Str}(F:rS K x qual st f fd)
    (h:∀(kV doc pm:Kg) (an:Option xM) (cdv ct:Kg) (us:List Kg),us.length=ps.length→bindArgs (Ol x qual (cU st) (cc st) (ag st) .none kV doc pm an cdv ct) ⟨us,[]⟩=pure (ps.zip us)):dq K fd ps []:=by
  obtain⟨oc,od,kV,doc,pm,an,cdv,ct,osl,rfl,lk,hcd⟩:=F.ex
  exact .all (h kV doc pm an cdv ct)
theorem j0{x qual:Str}{st:Na}{f:xM}{oc:Kg}{od an:Option xM}{osl:Array (Option Kg)}{kV doc pm cdv ct:Kg}(l:K.lookup f=some ⟨oc,od,.func (Ol x qual (cU st) (cc st) (ag st) .none kV doc pm an cdv ct),osl⟩)
    (c:PX K cdv qual=true)(k:OY K (.ref f)=true):rS K x qual st f (Ol x qual (cU st) (cc st) (ag st) .none kV doc pm an cdv ct):=⟨⟨oc,od,kV,doc,pm,an,cdv,ct,osl,rfl,l,c⟩,k⟩
end
theorem qm{n:Nat}(h:n≤1000):n < Nl:=QM h (by decide)
section
variable{X:Cx}
end
theorem Gp{A B:Prop}(h:B):if false=true then A else B:=by
  rw [if_neg Pl]
  exact h
theorem Gq{A B:Prop}(h:A):if true=true then A else B:=by
  rw [if_pos rfl]
  exact h
def ao(H H':Hp):Prop:=∀b o,H b=some o→H' b=some o
theorem ao.refl(H:Hp):ao H H:=fun _ _ h=>h
theorem ao.trans{H H1 H2:Hp}(a:ao H H1)(b:ao H1 H2):ao H H2:=fun c o h=>b c o (a c o h)
theorem ao.free{H H':Hp}(e:ao H H'){l:xM}(h:H' l=Option.none):H l=Option.none:=by
  cases q:H l with
  | none=>rfl
  | some o=>
    rw [e l o q] at h
    cases h
theorem ao.seq{K:MS}{H H':Hp}{a:xM}{xs:List V}(e:ao H H')(h:gF K H a xs):gF K H' a xs:=by
  rcases h with (h | ⟨o,h⟩) | h
  · exact .inl (.inl (e _ _ h))
  · exact .inl (.inr ⟨o,e _ _ h⟩)
  · exact .inr h
end L2
set_option maxHeartbeats 4000000
namespace L2
open PySem PySem.Spec PyProof.Rows
def Bt(n:Nat)(i:Int):Prop:=i.natAbs < 2 ^ n
theorem Bt.mono{m n:Nat}{i:Int}(h:Bt m i)(hm:m≤n):Bt n i:=NS h (Qp (by decide) hm)
theorem Bt.log{m:Nat}{i:Int}(h:Bt m i)(hm:0 < m):i.natAbs.log2 < m:=by
  unfold Bt at h
  rcases Nat.eq_zero_or_pos i.natAbs with h0 | hp
  · rw [h0];exact hm
  · exact(Nat.log2_lt (by lia)).mpr h
theorem Bt.bits{m:Nat}{i:Int}(h:Bt m i)(hm:0 < m):Builtin.Int.intBits i≤m:=by
  unfold Builtin.Int.intBits
  split
  · exact ON _
  · exact h.log hm
theorem Bt.of_le{m:Nat}{i:Int}{j:Int}(h:Bt m j)(e:i.natAbs≤j.natAbs):Bt m i:=QM e h
section
variable{X:Cx}
def Cr(i j:Int):Prop:=Bt 4000 i∧Bt 4000 j
theorem BE:gf X (NM .Mult) (rI Cr fun i j=>.int (i*j)):=GK fun _ _ _ _ _ _ _ hc q=>
  mul_int q (.of_bits (NG (hc.1.bits (by decide)) (by decide)) (NG (hc.2.bits (by decide)) (by decide)))
def Cq(i j:Int):Prop:=j≠0∧Bt 8000 j
theorem y':gf X (NM .FloorDiv) (rI Cq fun i j=>.int (i.fdiv j)):=GK fun _ _ _ _ _ _ _ hc q=>
  floordiv_int hc.1 q (.inl (PyProof.noPylong_of_log2 (Nat.lt_trans (hc.2.log (by decide)) (by decide))))
theorem Ex:gf X (NO .Is) (fun x y H Q=>∃b c,x=.bl b∧y=.bl c∧Q (.bl (b==c)) H):=by
  intro pins s σ H x y v u Q I rx ry h
  obtain⟨b,c,rfl,rfl,q⟩:=h
  cases rx;cases ry
  exact is_bool ⟨.bl _,H,I,rfl,q⟩
end
def l5(H H':Hp):Prop:=∀a o,H a=some o→(∀xs,o≠.lst xs)→(∀ob xs,o≠.frz ob (.lst xs))→H' a=some o
theorem l5.trans{H H1 H2:Hp}(a:l5 H H1)(b:l5 H1 H2):l5 H H2:=fun c o h n m=>b c o (a c o h n m) n m
theorem ao.ts{H H':Hp}(h:ao H H'):l5 H H':=fun a o e _ _=>h a o e
theorem l5.tup{K:MS}{H H':Hp}(h:l5 H H'){a:xM}{xs:List V}(q:dN K H a xs):dN K H' a xs:=by
  rcases q with (q | ⟨o,q⟩) | q
  · exact .inl (.inl (h _ _ q (fun _ e=>nomatch e) (fun _ _ e=>nomatch e)))
  · exact .inl (.inr ⟨o,h _ _ q (fun _ e=>nomatch e) (fun _ _ e=>nomatch e)⟩)
  · exact .inr q
section
variable{X:Cx}
end
structure dm (K:MS) (mg:Str→Option Kg) (x:Str) (st:Na) (f:xM) (fd:Nj) (ps:List Str):Prop where
  F:rS K x x st f fd
  m:mg x=some (.ref f)
  b:dq K fd ps []
theorem DD{K:MS}{mg:Str→Option Kg}{h:MY}{x:Str}{st:Na}{f:xM}{ps:List Str}{oc:Kg}{od an:Option xM}{osl:Array (Option Kg)}{kV doc pm cdv ct:Kg}(X:K.In h)(G:h.Ns NA mg)(a:OD K NA x=some (some (.ref f)))
    (l:K.lookup f=some ⟨oc,od,.func (Ol x x (cU st) (cc st) (ag st) .none kV doc pm an cdv ct),osl⟩)(c:PX K cdv x=true)(k:OY K (.ref f)=true)
    (hb:∀(kV doc pm:Kg) (an:Option xM) (cdv ct:Kg) (us:List Kg),us.length=ps.length→bindArgs (Ol x x (cU st) (cc st) (ag st) .none kV doc pm an cdv ct) ⟨us,[]⟩=pure (ps.zip us)):
    dm K mg x st f (Ol x x (cU st) (cc st) (ag st) .none kV doc pm an cdv ct) ps:=⟨j0 l c k,OP X G a,(j0 l c k).binds hb⟩
theorem EF{X:Cx}{x:Str}{st:Na}{f:xM}{fd:Nj}{ps:List Str}{k:Nat}{sp:Sp}{e:MU}{es:List MU}{t:TA}{p pos:Pos}(h:dm X.K X.mg x st f fd ps)(G:aA X.prog X.w X.K X.mg X.base bY k f fd ps sp)(hr:bI k X.A)(ha:PA X (e::es) t)
    (hg:Gl X x:=by rfl)(hdb:(x==("__debug__":Str))=false:=by decide)(he:Nf (e::es) X.env=(false,Nh e X.env)::Nf es X.env:=by rfl)(hpl:(Nr pos (Nf es X.env)).any (·.1)=false:=by rfl):
    PE X (.Call (.Name x p) (e::es) [] pos) (qr sp [] E0 t):=BI G hr hg h.m h.F.kp h.b .nil tK ha hdb he hpl
theorem ao.new{H:Hp}{p:xM}{o:HO}(h:H p=none):ao H (bv H p o):=fun b u e=>by
  rw [ar (dZ e h)];exact e
theorem ao.tup{K:MS}{H H':Hp}{a:xM}{xs:List V}(e:ao H H')(h:dN K H a xs):dN K H' a xs:=e.ts.tup h
def eJ(t b:Int):Int × Int:=if b < 0 then(t.fdiv (-(Np t b:Int)),b.fdiv (-(Np t b:Int))) else(t.fdiv (Np t b:Int),b.fdiv (Np t b:Int))
theorem yw(x y:Int):Np y (x.fmod y)=Np x y:=by
  rw [Int.fmod_def,Int.gcd_sub_mul_left_right,Int.gcd_comm]
theorem ma(x:Int){y:Int}(h:y≠0):(x.fmod y).natAbs < y.natAbs:=by
  rcases Int.lt_or_gt_of_ne h with h | h
  · have h1:x.fmod y= -((-x).fmod (-y)):=by
      have:=Int.neg_fmod_neg x y
      lia
    have h2:=Int.fmod_nonneg_of_pos (-x) (b:= -y) (by lia)
    have h3:=Int.fmod_lt_of_pos (-x) (b:= -y) (by lia)
    lia
  · have h2:=Int.fmod_nonneg_of_pos x h
    have h3:=Int.fmod_lt_of_pos x h
    lia
theorem vJ{t b:Int}(h:b≠0):(0:Int) < Np t b:=by
  have:=Int.gcd_pos_of_ne_zero_right t h
  lia
theorem p8{t b:Int}(h:b≠0):∃d:Int,d.natAbs=Np t b∧d≠0∧(eJ t b).1*d=t∧(eJ t b).2*d=b∧0 < (eJ t b).2:=by
  have hg:=vJ (t:=t) h
  have d1:(Np t b:Int) ∣ t:=Int.gcd_dvd_left ..
  have d2:(Np t b:Int) ∣ b:=Int.gcd_dvd_right ..
  unfold eJ
  split
  · rename_i hb
    have e1:t.fdiv (-(Np t b:Int))*(-(Np t b:Int))=t:=Qq (Int.neg_dvd.mpr d1)
    have e2:b.fdiv (-(Np t b:Int))*(-(Np t b:Int))=b:=Qq (Int.neg_dvd.mpr d2)
    refine⟨-(Np t b:Int),by lia,by lia,e1,e2,?_⟩
    show 0 < b.fdiv (-(Np t b:Int))
    have h3:b.fdiv (-(Np t b:Int))*(Np t b:Int)= -b:=by rw [Int.mul_neg] at e2;lia
    exact Int.pos_of_mul_pos_left (by lia) (by lia) (b:=(Np t b:Int))
  · rename_i hb
    have e1:t.fdiv (Np t b:Int)*(Np t b:Int)=t:=Qq d1
    have e2:b.fdiv (Np t b:Int)*(Np t b:Int)=b:=Qq d2
    refine⟨(Np t b:Int),by lia,by lia,e1,e2,?_⟩
    show 0 < b.fdiv (Np t b:Int)
    exact Int.pos_of_mul_pos_left (by lia) (by lia) (b:=(Np t b:Int))
theorem yK{t b:Int}(h:b≠0):Np (eJ t b).1 (eJ t b).2=1:=by
  obtain⟨d,h1,h2,h3,h4,h5⟩:=p8 (t:=t) h
  have e:Np ((eJ t b).1*d) ((eJ t b).2*d)=Np (eJ t b).1 (eJ t b).2*d.natAbs:=Int.gcd_mul_right ..
  rw [h3,h4,←h1] at e
  have hd:0 < d.natAbs:=by lia
  exact(Nat.eq_of_mul_eq_mul_right hd (by rw [Nat.one_mul];exact e)).symm
theorem DC{t b:Int}(h:b≠0){n:Nat}(hb:Bt n b):Bt n (Np t b:Int):=by
  refine hb.of_le ?_
  have h1:=Nat.le_of_dvd (show 0 < b.natAbs by lia) (Int.ofNat_dvd.mp (by rw [Int.dvd_natAbs];exact Int.gcd_dvd_right t b))
  lia
mutual
def cnt:MT→Nat
  | .tuple ds=>1+jX ds
  | .str _=>0
  | _=>1
def jX:List MT→Nat
  | []=>0
  | d::ds=>cnt d+jX ds
end
mutual
def oh:MT→Bool
  | .tuple ds=>gU ds
  | .str _=>false
  | .list _=>false
  | .dict _=>false
  | _=>true
def gU:List MT→Bool
  | []=>true
  | d::ds=>oh d&&gU ds
end
theorem pA{a:Int}(h:a.natAbs.log2 < 1920):(MW (toString a)).length≤1921:=by
  have e:=int_text_length_le (k:=1920) (by decide) h
  rw [PySem.ofString_length];lia
theorem uV(x:Str)(r:List Str):piled (x::r)=x.length+2+piled r:=by
  simp [piled]
theorem xN(ts:List Str):(tupleText ts).length≤piled ts+3:=by
  unfold tupleText
  rw [strLen_append,strLen_append]
  have h1:(("(":Str)).length=1:=by decide
  have h2:(MW (if (ts.length==1)=true then ",)" else ")")).length≤2:=by split<;>decide
  have h3:(Str.join ", " ts).length≤piled ts:=by
    cases ts with
    | nil=>show(Str.join ", " []).length≤0;decide
    | cons x r=>have:=join_length_add (x::r) (by simp);lia
  lia
mutual
theorem ql:∀{d:MT},oh d=true→d.showable=true→d.shown.length+2≤2000*cnt d
  | .none,_,_=>by show(MW "None").length+2≤2000*1;decide
  | .bool b,_,_=>by
    cases b
    · show(MW "False").length+2≤2000*1;decide
    · show(MW "True").length+2≤2000*1;decide
  | .int i,_,hs=>by
    simp only [PyData.showable,decide_eq_true_eq] at hs
    have:=pA hs
    show(MW (toString i)).length+2≤2000*1
    lia
  | .tuple ds,hn,hs=>by
    simp only [PyData.showable] at hs
    simp only [oh] at hn
    have h1:=lr hn hs
    have h2:=xN (Qr ds)
    simp only [PyData.shown,cnt]
    lia
  | .str _,hn,_=>by simp [oh] at hn
  | .list _,hn,_=>by simp [oh] at hn
  | .dict _,hn,_=>by simp [oh] at hn
theorem lr:∀{ds:List MT},gU ds=true→Qs ds=true→piled (Qr ds)≤2000*jX ds
  | [],_,_=>by simp [Qr,piled]
  | d::ds,hn,hs=>by
    simp only [gU,NX] at hn
    simp only [Qs,NX] at hs
    have h1:=ql hn.1 hs.1
    have h2:=lr hn.2 hs.2
    simp only [Qr,jX,uV]
    lia
end
def ij(env:Env):List (Str × NW)→List (Str × xM)→List (Str × xM)
  | [],cs=>cs
  | (n,k)::r,cs=>ij env r (if k==.free then(n,(env.cells.lookup n).getD 0)::cs else cs)
theorem ko{env:Env}:∀(names:List (Str × NW)) (cs:List (Str × xM)),(∀y∈names,y.2=.free→∃c,env.cells.lookup y.1=some c)→
    (forIn names cs (fun(x:Str × NW) (r:List (Str × xM))=>(if (x.2==Oi)=true then do let a ←cellOf env x.1;pure (PJ ((x.1,a)::r)) else pure (PJ r):Sem (ForInStep (List (Str × xM))))):Sem (List (Str × xM)))=pure (ij env names cs)
  | [],cs,_=>rfl
  | (n,k)::r,cs,h=>by
    rw [List.forIn_cons]
    have ih:=fun cs'=>ko (env:=env) r cs' (fun y hy=>h y (Om _ hy))
    by_cases hk:(k==Oi)=true
    · have hk':k=.free:=by simpa using hk
      obtain⟨c,hc⟩:=h (n,k) OL hk'
      have e:cellOf env n=pure c:=by unfold cellOf;rw [hc]
      simp only [hk,if_true,e,pure_bind,ij,hc,Qt]
      exact ih _
    · have hk':(k==Oi)=false:=by simpa using hk
      simp only [hk',QN,if_false,pure_bind,ij]
      exact ih _
theorem ux{scope:Nz}{env:Env}(h:∀y∈scope.names,y.2=.free→∃c,env.cells.lookup y.1=some c):closureFor scope env=pure (ij env scope.names []):=by
  have e:=ko (env:=env) scope.names [] h
  unfold closureFor
  simp only [pure_bind,bind_pure] at e ⊢
  exact e
theorem m_{env:Env}:∀(names:List (Str × NW)) (cs:List (Str × xM)) (x:Str) (c:xM),(∀y∈names,y.2=.free→∃c,env.cells.lookup y.1=some c)→(∀x c,cs.lookup x=some c→env.cells.lookup x=some c)→(ij env names cs).lookup x=some c→env.cells.lookup x=some c
  | [],cs,x,c,_,hs,h=>hs x c h
  | (n,k)::r,cs,x,c,hn,hs,h=>by
    refine m_ r _ x c (fun y hy=>hn y (Om _ hy)) (fun x' c' e=>?_) h
    by_cases hk:(k==Oi)=true
    · rw [if_pos hk] at e
      obtain⟨c0,hc⟩:=hn (n,k) OL (by simpa using hk)
      rw [NP] at e
      cases hx:x'==n with
      | true=>
        rw [hx] at e
        have e1:x'=n:=by simpa using hx
        subst e1
        simp only [hc,Qt,Pf] at e
        rw [←e];exact hc
      | false=>rw [hx] at e;exact hs x' c' e
    · rw [if_neg hk] at e
      exact hs x' c' e
theorem sv{env:Env}:∀(names:List (Str × NW)) (cs:List (Str × xM)) (x:Str),((∃y∈names,y.1=x∧y.2=.free)∨∃c,cs.lookup x=some c)→∃c,(ij env names cs).lookup x=some c
  | [],cs,x,h=>by
    rcases h with ⟨y,hy,_⟩ | h
    · cases hy
    · exact h
  | (n,k)::r,cs,x,h=>by
    refine sv r _ x ?_
    by_cases hk:(k==Oi)=true
    · rw [if_pos hk,NP]
      cases hx:x==n with
      | true=>exact .inr ⟨_,rfl⟩
      | false=>
        rcases h with ⟨y,hy,e1,e2⟩ | h
        · rcases MQ hy with z | z
          · subst z;subst e1;simp at hx
          · exact .inl ⟨y,z,e1,e2⟩
        · exact .inr h
    · rw [if_neg hk]
      rcases h with ⟨y,hy,e1,e2⟩ | h
      · rcases MQ hy with z | z
        · subst z;exact absurd (by simpa using e2) hk
        · exact .inl ⟨y,z,e1,e2⟩
      · exact .inr h
theorem iU{env:Env}:∀{names:List (Str × NW)} {x:Str},names.lookup x=some .free→
    (names.map fun(n,k)=>if (k==Oi&&env.scope.kind==.function&&env.kindOf n==some .cell) then(n,Pq) else(n,k)).lookup x≠some .local
  | [],x,h=>by simp at h
  | (n,k)::r,x,h=>by
    rw [ND]
    cases hx:x==n with
    | true=>
      simp only [hx,NP] at h
      cases h
      show NJ x ((if (Oi==Oi&&env.scope.kind==.function&&env.kindOf n==some .cell)=true then(n,Pq) else(n,Oi))::_)≠_
      split<;>simp [NP,hx]
    | false=>
      simp only [hx,NP] at h
      have ih:=@iU env r x h
      have e2:∀(l:List (Str × NW)),((if (k==Oi&&env.scope.kind==.function&&env.kindOf n==some .cell)=true then(n,Pq) else(n,k))::l).lookup x=l.lookup x:=fun l=>by
        split<;>simp [NP,hx]
      simp only [e2]
      exact ih
def Ao(X:Cx)(ifs:List MU)(t:TT):Prop:=
  ∀(pins:List (xM × Obj)) (s:MP) (σ:L2.St) (H:Hp) (Q:Bool→Hp→Prop),aC X pins σ H s→t σ H Q→
    Nc (Ng X.prog X.w) X.A (forIn ifs true fun c r=>if r=true then do let ok ←isTrue c X.env (Nh c X.env);pure (PJ ok) else pure (PJ r)) (TP X pins σ Q) X.xe s
theorem BV{X:Cx}:Ao X [] (fun _ H Q=>Q true H):=fun _ _ _ H _ I h=>wpAny_tests_nil ⟨H,I,h⟩
theorem BW{X:Cx}{c:MU}{t:TT}(h:PT X c t):Ao X [c] t:=fun pins s σ H Q I q=>wpAny_tests_one (h pins s σ H Q I q)
abbrev FN:Kg→MP→Prop:=fun _ _=>False
def Dt(prog:MZ)(w:MV)(A:Nb)(elt tg:MU)(ifs:List MU)(env:Env)(it acc:Kg)(onward:MP→Prop)(v:Kg)(u:MP):Prop:=
  Nc (Ng prog w) A (Qg tg it v) (fun _ u1=>Nc (Ng prog w) A (assign tg env v) (fun _ u2=>Nc (Ng prog w) A
    (forIn ifs true fun c r=>if r=true then do let ok ←isTrue c env (Nh c env);pure (PJ ok) else pure (PJ r)) (fun ok u3=>if ok=true then Nc (Ng prog w) A (Nh elt env) (fun x u4=>Nc (Ng prog w) A (call (.builtin "list.append") [acc,x]) (fun _ u5=>onward u5) FN u4) FN u3 else onward u3) FN u2) FN u1) FN u
theorem qL{prog:MZ}{w:MV}{A:Nb}{R:Result→MP→Prop}{elt tg iter:MU}{ifs:List MU}{scope:Nz}{pos:Pos}{it acc:Kg}{env:Env}(J:Nat→MP→Prop)
    (turn:∀n u,J n u→Nc (Ng prog w) A (pyNext it) (fun r u1=>(r=none→R (.ok .next) u1)∧∀v,r=some v→Dt prog w A elt tg ifs env it acc (fun u2=>∃m,m < n∧J m u2) v u1) FN u){n0:Nat}{u0:MP}(gw:J n0 u0):
    codeAny (Ng prog w) A (.compLoop (.ListComp elt [⟨tg,iter,ifs,0⟩] scope pos) 0 it acc env) R u0:=by
  refine codeAny_loop rfl J (fun n u ju=>?_) n0 gw
  show Nc _ A ((compTurn (.ListComp elt [⟨tg,iter,ifs,0⟩] scope pos) 0 it acc env).onRaise _) _ _ u;refine wpAny_noted ?_;rw [compTurn_list]
  refine Ni (wpAny_standAt (Ni (On (turn n u ju) (fun r u1 k1=>?_) fun _ _ z=>z.elim)))
  cases r with
  | none=>exact Nm (k1.1 rfl)
  | some v=>
    refine Ni (On (k1.2 v rfl) (fun _ u2 k2=>Ni (On k2 (fun _ u3 k3=>Ni (On k3 (fun ok u4 k4=>?_) fun _ _ z=>z.elim)) fun _ _ z=>z.elim)) fun _ _ z=>z.elim)
    cases ok with
    | false=>rw [if_neg Pl] at k4;exact Nm ⟨rfl,k4⟩
    | true=>
      rw [if_pos rfl] at k4
      refine Ni (Ni (On k4 (fun x u5 k5=>Ni (On k5 (fun _ u6 k6=>?_) fun _ _ z=>z.elim)) fun _ _ z=>z.elim));exact Nm (Nm ⟨rfl,k6⟩)
def iQ(cp:List (Nat × Str))(nT:Nat)(σ:L2.St):L2.St:=cp.map (fun p=>(σ[p.1]?).join)++Nk nT none
structure Ad (cp:List (Nat × Str)) (nT:Nat) (wi:TI) (g:TG) (tc:TT) (te:TE) (σ:L2.St) (H:Hp) (Q:VK):Prop where
  go:wi σ H fun J H1=>∀l,H1 l=none→
  ∃W:Nat→Nat→L2.St→Hp→Prop,(∃m,W 0 m (iQ cp nT σ) (bv H1 l (.lst [])))∧∀i m σ' H',W i m σ' H'→
    (J.stop i H'∧Q (.ref l) H')∨(J.go i H'∧∃N:L2.St→Hp→Prop,(∀σ2 H2,N σ2 H2→∃m',m' < m∧W (i+1) m' σ2 H2)∧
      ∀x H2,J.yld i H' x H2→g x σ' H2 fun σ2 H3=>tc σ2 H3 fun b H4=>if b=true then te σ2 H4 fun v H5=>∃ys,H5 l=some (.lst ys)∧ys.length < Nl∧N σ2 (bv H5 l (.lst (ys++[v]))) else N σ2 H4)
section
variable{X:Cx}
def zL(K:MS):R2:=fun x y H Q=>∃a b xs ys,x=.ref a∧y=.ref b∧dN K H a xs∧dN K H b ys∧xs.length+ys.length≤Nl∧∀p H',ao H H'→dN K H' p (xs++ys)→Q (.ref p) H'
theorem Bz:gf X (NM .Add) (zL X.K):=by
  intro pins s σ H x y v u Q I rx ry h
  obtain⟨a,b,xs,ys,rfl,rfl,ha,hb,hz,q⟩:=h
  cases rx;cases ry
  by_cases hx:xs=[]
  · obtain⟨i1,r1,p1,_⟩:=I.tuple ha
    obtain⟨i2,r2,p2,_⟩:=I.tuple hb
    obtain⟨m,F⟩:=I.fr
    have e1:i1=[]:=by subst hx;cases r1;rfl
    refine add_tuples F (yU (g:=X.base)) p1 p2 (fun _=>?_) (fun z1 _=>absurd e1 z1) (fun z1 _ _ _ _=>absurd e1 z1) (by rw [←r1.length,←r2.length];exact hz)
    exact⟨.ref b,H,I,rfl,q b H (ao.refl H) (by rw [hx];exact hb)⟩
  · exact BA pins s σ H (.ref a) (.ref b) _ _ Q I rfl rfl ⟨a,b,xs,ys,rfl,rfl,ha,hb,hx,hz,fun z=>q a H (ao.refl H) (by rw [z,OC];exact ha),fun _ p hp=>q p _ (ao.new hp) (dN.of aq)⟩
theorem iI{x:V}{us:List Kg}(r:aP [x] us):∃u,us=[u]∧bF x u:=by
  cases r with
  | cons p p'=>cases p';exact⟨_,rfl,p⟩
theorem yc{k:Nat}(hr:bI k X.A):cM X (.builtin "sum") (fun xs H Q=>∃(l:xM) (ns:List Int),xs=[.ref l]∧gF X.K H l (ns.map V.int)∧Q (.int ns.sum) H):=by
  intro pins s σ H xs us Q I r h
  obtain⟨l,ns,rfl,hs,q⟩:=h
  obtain⟨u,rfl,ru⟩:=iI r
  cases ru
  obtain⟨its,rv,p,hz⟩:=I.list hs
  have hi:OO its ns:=nY rv
  obtain⟨ys,ey⟩:=hi.allInts.items
  have hl:=p.isList
  rw [ey] at hl
  refine PySem.sum_intListG hr.hd hl fun h' tk t' hk=>?_
  have e:preSum (numAt ys) ys.size=ns.sum:=by
    have e2:=nums_intItems (xs:=ys)
    rw [←ey] at e2
    have e3:=hi.numsOf
    rw [preSum_eq,List.take_of_length_le (by simp)]
    rw [show its.toArray.toList=its from rfl,e3] at e2
    rw [e2]
  exact⟨.int ns.sum,H,I.kept hk,⟨t',by rw [e]⟩,q⟩
theorem sx{prog:MZ}{w:MV}{A:Nb}{E:Kg→MP→Prop}{s:MP}{t:xM}{vs:List Kg}{Q:List Kg→MP→Prop}(ht:IsTup s.heap t vs.toArray)
    (h:Q vs {s with heap:=(s.heap.push (seqObj "list" #[] 0)).update s.heap.objs.size (Pp (· ++vs.toArray))})(hsz:vs.length≤Nl):Nc (Ng prog w) A (collect (.ref t)) Q E s:=by
  obtain⟨o,ho,hc,n,hd⟩:=id ht;unfold collect;refine Ni (wpAny_runValue (codeAny_builtin entry_proto_collect' ?_))
  show Nc _ _ (do again (.builtin "list.__iadd__" ⟨[←newList [],.ref t],[]⟩)) _ _ s
  refine Ni (wpAny_newList (Nm ⟨Code.quiet_builtin _ (by decide+kernel),?_⟩));refine codeAny_builtin entry_list_iadd' ?_
  show Nc _ _ (Rg (.ref s.heap.objs.size) (.ref t) (.ref s.heap.objs.size)) _ _ {s with heap:=s.heap.push (seqObj "list" #[] 0)}
  unfold Rg;have ho':(s.heap.push (seqObj "list" #[] 0)).get? t=some o:=NH _ ho
  refine Ni (wpAny_typeOf (T:="tuple") ⟨o,ho',hc⟩ ?_)
  rw [if_pos (by rw [show(Value.type "tuple"==Value.type "tuple")=true from rfl,Bool.or_true])]
  refine Ni (listItems_at ho' hd ?_);refine Ni (listItems_at (xs:=#[]) (n:=0) (Oa _ rfl) rfl ?_)
  rw [if_neg (by simp)];refine Ni (listUpdate_at (xs:=#[]) (n:=0) (Oa _ rfl) rfl ?_ (ON _) (by show(#[]++vs.toArray).size≤Nl+1;simp only [Array.size_append,Nx,List.length_nil];lia))
  refine Nm ?_
  show Nc (Ng prog w) A (load s.heap.objs.size >>= fun o=>match o.data with | .seq xs _=>pure xs.toList | _=>unsupported "internal:collect") Q E {s with heap:=(s.heap.push (seqObj "list" #[] 0)).update s.heap.objs.size (Pp (· ++vs.toArray))}
  refine Ni (wpAny_load (get?_update_seq (Oa _ rfl) _) ?_);show Nc _ _ (pure ((#[]:Array Kg)++vs.toArray).toList) Q E _;rw [show((#[]:Array Kg)++vs.toArray).toList=vs by simp];exact Nm h
theorem u9{prog:MZ}{w:MV}{A:Nb}{E:Kg→MP→Prop}{s:MP}{t:xM}{vs:List Kg}{ns:List Int}{Q:Kg→MP→Prop}(ht:IsTup s.heap t vs.toArray)(hI:OO vs ns)(h64:vs.length < 64)
    (h:∀(out:Array Kg) (ns':List Int),OO out.toList ns'→ns'.Perm ns→ns'.Pairwise (· ≤·)→Q (.ref (s.heap.objs.size+1)) {s with heap:=sortedAll s.heap vs out}):Nc (Ng prog w) A (call (.builtin "sorted") [.ref t]) Q E s:=by
  refine Calls.call_function_entry kind_sorted plain_sorted entry_sorted (args_sorted1 _) ?_;unfold Builtin.«sorted»
  refine Ni (m:=checkCount "sorted" 1 1 _) (Nm ?_);refine Ni (sx ht ?_ (NG (Pi h64) (by decide)))
  have z:((s.heap.push (seqObj "list" #[] 0)).update s.heap.objs.size (Pp (· ++vs.toArray))).objs.size=s.heap.objs.size+1:=by rw [Heap.size_update,size_push']
  have o:(((s.heap.push (seqObj "list" #[] 0)).update s.heap.objs.size (Pp (· ++vs.toArray))).push (seqObj "list" vs.toArray 0)).get? (s.heap.objs.size+1)=some (seqObj "list" vs.toArray 0):=by rw [←z];exact Oa _ rfl
  refine Ni (wpAny_newList ?_);show Nc _ _ _ _ _ {s with heap:=((s.heap.push (seqObj "list" #[] 0)).update s.heap.objs.size (Pp (· ++vs.toArray))).push (seqObj "list" vs.toArray 0)}
  rw [z];refine Ni (wpAny_holding (wpAny_call_entry slot_list_sort ⟨_,o,rfl⟩ entry_list_sort (list_sort_tree o hI h64 fun out ns' b1 b2 b3=>⟨_,rfl,?_⟩) (args_list_sort _)))
  exact Nm ⟨_,rfl,h out ns' b1 b2 b3⟩
theorem se:cM X (.builtin "sorted") (fun xs H Q=>∃(a:xM) (ns:List Int),xs=[.ref a]∧dN X.K H a (ns.map V.int)∧ns.length < 64∧∀(l:xM) (ns':List Int) (H':Hp),ao H H'→H l=none→H' l=some (.lst (ns'.map V.int))→ns'.Perm ns→ns'.Pairwise (· ≤·)→Q (.ref l) H'):=by
  intro pins s σ H xs us Q I r h
  obtain⟨a,ns,rfl,hs,h64,q⟩:=h
  obtain⟨u,rfl,ru⟩:=iI r
  cases ru
  obtain⟨its,rv,p,hz⟩:=I.tuple hs
  have hl:=rv.length
  rw [NC] at hl
  refine u9 p (nY rv) (by lia) fun out ns' a1 a2 a3=>?_
  obtain⟨e,he⟩:=sortedAll_at s.heap its out
  have hf:H (s.heap.objs.size+1)=none:=I.hok.fresh (Nat.le_succ _)
  refine⟨.ref (s.heap.objs.size+1),bv H (s.heap.objs.size+1) (.lst (ns'.map V.int)),I.laid (t':=s.toks) (fun _ _=>sortedAll_old) (Nat.le_succ _) ⟨?_,out.toList,e,lY a1,?_⟩,rfl,q _ ns' _ (ao.new hf) hf aq a2 a3⟩
  · rw [NC,a2.length_eq]
    exact NG (Pi h64) (by decide)
  · simpa [seqObj] using he
end
section
variable{X:Cx}
end
theorem xG{e:MU}{es:List MU}{env:Env}(h:Pc e=false):Nf (e::es) env=(false,Nh e env)::Nf es env:=by
  cases e<;>first | rfl | cases h
theorem tJ{X:Cx}{e:MU}{es:List MU}{te:TE}{t:TA}(ha:PE X e te)(hr:PA X es t)(h:Pc e=false:=by rfl):PA X (e::es) (mz te t):=kR ha hr (xG h)
def wz:List (Int × Int)→TA
  | []=>Af
  | p::r=>mz (Hs (mz (tC (.int p.1)) (mz (tC (.int p.2)) Af))) (wz r)
@[irreducible] def I0(ps:List (Int × Int)):TA:=wz ps
structure lw where
  one:Int
  other:Int
  top:Int
  bot:Int
  worth:Int
structure aU where
  things:Int
  ties:List lw
  pat:List Int
  asks:Int
structure lw.Ok (n:Int) (t:lw):Prop where
  o0:0≤t.one
  o1:t.one < t.other
  o2:t.other < n
  c0:0≤t.top
  c1:t.top≤t.bot
  b0:1≤t.bot
  b1:t.bot≤100
  w0:0≤t.worth
  w1:t.worth≤1000
  cop:Np t.top t.bot=1
structure aU.Ok (w:aU):Prop where
  t0:0≤w.things
  t1:w.things≤12
  ties:∀t∈w.ties,t.Ok w.things
  len:w.ties.length≤16
  pl:(w.pat.length:Int)=w.things
  pat:∀p∈w.pat,0≤p∧p≤20
  a0:0≤w.asks
  a1:w.asks≤40
def FR(K:MS)(H:Hp)(v:V)(t:lw):Prop:=∃p q,v=.ref p∧dN K H p [.int t.one,.int t.other,.ref q,.int t.worth]∧dN K H q [.int t.top,.int t.bot]
inductive qC (K:MS) (H:Hp):List V→List lw→Prop
  | nil:qC K H [] []
  | cons {v vs t ts}:FR K H v t→qC K H vs ts→qC K H (v::vs) (t::ts)
structure Jn (K:MS) (H:Hp) (v:V) (w:aU):Prop where
  ex:∃a b c ts,v=.ref a∧dN K H a [.int w.things,.ref b,.ref c,.int w.asks]∧dN K H b ts∧qC K H ts w.ties∧dN K H c (w.pat.map V.int)
section
variable{K:MS}{H H':Hp}
end
theorem uK{t b:Int}(hb:0 < b)(h0:0≤t)(h1:t≤b)(h2:b≤100):0≤(eJ t b).1∧(eJ t b).1≤(eJ t b).2∧1≤(eJ t b).2∧(eJ t b).2≤100:=by
  obtain⟨d,e1,e2,e3,e4,e5⟩:=p8 (t:=t) (b:=b) (by lia)
  generalize (eJ t b).1=x at*
  generalize (eJ t b).2=y at*
  have dp:0 < d:=by
    rcases Int.lt_or_gt_of_ne e2 with z | z
    · exfalso
      have:y*d < 0:=Int.mul_neg_of_pos_of_neg e5 z
      lia
    · exact z
  have x0:0≤x:=by
    rcases Int.lt_or_le x 0 with z | z
    · have:x*d < 0:=Int.mul_neg_of_neg_of_pos z dp
      lia
    · exact z
  have xy:x≤y:=by
    rcases Int.lt_or_le y x with z | z
    · have:y*d < x*d:=Int.mul_lt_mul_of_pos_right z dp
      lia
    · exact z
  have yb:y≤y*d:=by
    have:=Int.mul_le_mul_of_nonneg_left (show(1:Int)≤d by lia) (show 0≤y by lia)
    lia
  exact⟨x0,xy,by lia,by lia⟩
inductive mD {α β:Type} (R:α→β→Prop):List α→List β→Prop
  | nil:mD R [] []
  | cons {a b as bs}:R a b→mD R as bs→mD R (a::as) (b::bs)
namespace mD
variable{α β:Type}{R S:α→β→Prop}
theorem mono(h:∀a b,R a b→S a b):∀{as:List α} {bs:List β},mD R as bs→mD S as bs
  | _,_,.nil=>.nil
  | _,_,.cons x r=>.cons (h _ _ x) (mono h r)
theorem len:∀{as:List α} {bs:List β},mD R as bs→as.length=bs.length
  | _,_,.nil=>rfl
  | _,_,.cons _ r=>by simp [len r]
theorem snoc{a:α}{b:β}(h:R a b):∀{as:List α} {bs:List β},mD R as bs→mD R (as++[a]) (bs++[b])
  | _,_,.nil=>.cons h .nil
  | _,_,.cons x r=>.cons x (snoc h r)
theorem get:∀{as:List α} {bs:List β} {i:Nat} {b:β},mD R as bs→bs[i]?=some b→∃a,as[i]?=some a∧R a b
  | _,_,_,_,.nil,e=>by simp at e
  | _,_,0,_,.cons x _,e=>by simp at e;subst e;exact⟨_,rfl,x⟩
  | _,_,i+1,b,.cons _ r,e=>by
    obtain⟨v,h1,h2⟩:=get (i:=i) (b:=b) r (by simpa using e)
    exact⟨v,by simpa using h1,h2⟩
end mD
section
variable{K:MS}{a l:xM}{xs:List V}{g:TG}{tc:TT}{te:TE}{Q:VK}{σ:L2.St}{H:Hp}{α β:Type}{us:List α}{cp:List (Nat × Str)}{nT:Nat}
def HI(aY:Hp→V→β→Prop)(SI:L2.St→Prop)(us:List α)(f:α→Option β)(H:Hp)(l:xM)(i:Nat)(σ:L2.St)(H':Hp):Prop:=SI σ∧ao H H'∧∃vs,H' l=some (.lst vs)∧vs.length≤i∧mD (aY H') vs ((us.take i).filterMap f)
end
theorem mx:∀{a b:List Int},a.Perm b→a.Pairwise (· ≤·)→b.Pairwise (· ≤·)→a=b
  | [],b,p,_,_=>by
    have:=p.length_eq
    exact(QO.mp this.symm).symm
  | x::a,b,p,h1,h2=>by
    cases b with
    | nil=>have:=p.length_eq;simp at this
    | cons y b=>
      have h1':=QP.mp h1
      have h2':=QP.mp h2
      have e:x=y:=by
        have m1:y∈x::a:=p.mem_iff.mpr (by simp)
        have m2:x∈y::b:=p.mem_iff.mp (by simp)
        rcases MQ m1 with z | z
        · exact z.symm
        · rcases MQ m2 with z2 | z2
          · exact z2
          · have:=h1'.1 y z
            have:=h2'.1 x z2
            lia
      subst e
      rw [mx ((List.perm_cons x).mp p) h1'.2 h2'.2]
def hU(ns:List Int):List Int:=ns.mergeSort
theorem Ab{ns ns':List Int}(p:ns'.Perm ns)(h:ns'.Pairwise (· ≤·)):ns'=hU ns:=by
  refine mx (p.trans (List.mergeSort_perm ns _).symm) h ?_
  have:=List.pairwise_mergeSort (le:=fun a b:Int=>decide (a≤b)) (fun a b c h1 h2=>by simp at*;lia) (fun a b=>by simp;lia) ns
  exact this.imp fun h=>by simpa using h
theorem kd(ns:List Int):(hU ns).Perm ns:=List.mergeSort_perm ns _
theorem qp{ns:List Int}{x:Int}:x∈hU ns↔ x∈ns:=(kd ns).mem_iff
theorem qo(ns:List Int):(hU ns).length=ns.length:=(kd ns).length_eq
section
variable{X:Cx}{K:MS}{pos:Pos}
theorem vQ{es:List MU}{k:Nat}{t:Aq}{n:Nat}(hK:X.K=K)(hc:X.calm=true)(h:xQ X es t)(hn:(NL es X.env).length=n:=by rfl)(hst:(NL es X.env).findIdx? (·.1)=none:=by rfl):PG X (.Tuple es k pos) (Gd K n t):=hK ▸ EK hc h hn hst
theorem BO{tg l:MU}{tl:TE}(h:X.K=K)(hl:PE X l tl):PI X tg l (Gf K tl):=h ▸ EL hl
theorem zo{tg l:MU}{tl:TE}(h:X.K=K)(hl:PE X l tl):PI X tg l (CP K tl):=h ▸ BN hl
end
instance:Inhabited lw:=⟨⟨0,1,1,1,0⟩⟩
def aU.tie(W:aU)(k:Int):lw:=W.ties.getD k.toNat default
def aU.has(W:aU)(k thing:Int):Bool:=(W.tie k).one==thing || (W.tie k).other==thing
def aU.many(W:aU)(asked:List Int)(thing:Int):Int:=((asked.filter fun k=>W.has k thing).length:Nat)
def aU.bears(W:aU)(asked taken:List Int)(thing:Int):Bool:= !taken.contains thing&&decide (W.many asked thing < W.pat.getD thing.toNat 0)
def aU.may(W:aU)(asked taken:List Int)(k:Int):Bool:= !(asked.contains k || decide (W.asks≤(asked.length:Int)))&&(W.bears asked taken (W.tie k).one&&W.bears asked taken (W.tie k).other)
def aU.askd(asked:List Int)(k:Int):List Int:=hU (asked++[k])
def aU.took(W:aU)(taken:List Int)(k:Int)(truth:Bool):List Int:=if truth then hU (taken++[(W.tie k).one,(W.tie k).other]) else taken
def aU.rng(W:aU):List Int:=(OX W.ties.length).map Int.ofNat
def iT(W:aU)(k:Int):Prop:=0≤k∧k < (W.ties.length:Int)
theorem iT.get{W:aU}{k:Int}(h:iT W k):W.ties[k.toNat]?=some (W.tie k):=by
  have hk:k.toNat < W.ties.length:=by have:=h.1;have:=h.2;lia
  unfold aU.tie
  rw [QQ,Ot hk];rfl
theorem iT.ok{W:aU}{k:Int}(h:iT W k)(o:W.Ok):(W.tie k).Ok W.things:=o.ties _ (MR h.get)
theorem HP{W:aU}{k:Int}:k∈W.rng↔ iT W k:=by
  unfold aU.rng iT
  rw [OI]
  constructor
  · rintro⟨n,hn,rfl⟩
    have:=PL.mp hn
    exact⟨Int.natCast_nonneg n,by simp;lia⟩
  · rintro⟨h0,h1⟩
    exact⟨k.toNat,PL.mpr (by lia),by simp;lia⟩
def Dl(K:MS)(H:Hp)(v:V)(asked taken:List Int):Prop:=∃a b c,v=.ref a∧dN K H a [.ref b,.ref c]∧dN K H b (asked.map V.int)∧dN K H c (taken.map V.int)
theorem Dl.ts{K:MS}{H H':Hp}(s:l5 H H'){v:V}{asked taken:List Int}(h:Dl K H v asked taken):Dl K H' v asked taken:=by
  obtain⟨a,b,c,e,h1,h2,h3⟩:=h
  exact⟨a,b,c,e,s.tup h1,s.tup h2,s.tup h3⟩
section
variable{K:MS}{σ:L2.St}{H:Hp}{Q:VK}{i j:Nat}{vW:V}{W:aU}{k:Int}
end
def C9(k:Int):Prop:= -1000000≤k∧k≤1000000
def Dk(n dep:Nat)(d:MT):Prop:=d.showable=true∧oh d=true∧L2.cnt d≤n∧d.depth≤dep
theorem Dk.mono{n m dep e:Nat}{d:MT}(h:Dk n dep d)(h1:n≤m)(h2:dep≤e):Dk m e d:=⟨h.1,h.2.1,NG h.2.2.1 h1,NG h.2.2.2 h2⟩
theorem Dk.int{k:Int}(h:C9 k):Dk 1 2 (.int k):=by
  refine⟨?_,rfl,Nn _,by simp [Oj]⟩
  show decide (k.natAbs.log2 < 1920)=true
  rw [decide_eq_true_eq]
  exact Nat.lt_trans ((show Bt 64 k by have:=h.1;have:=h.2;unfold Bt;lia).log (by decide)) (by decide)
theorem Dk.bool(b:Bool):Dk 1 2 (.bool b):=⟨rfl,rfl,Nn _,by simp [Oj]⟩
theorem Dk.none:Dk 1 2 .none:=⟨rfl,rfl,Nn _,by simp [Oj]⟩
theorem Dk.all{n dep:Nat}:∀{ds:List MT},(∀d∈ds,Dk n dep d)→Qs ds=true∧gU ds=true∧jX ds≤ds.length*n∧OQ ds≤dep
  | [],_=>⟨rfl,rfl,by simp [jX],by simp [OQ]⟩
  | d::r,h=>by
    obtain⟨a1,a2,a3,a4⟩:=h d (by simp)
    obtain⟨b1,b2,b3,b4⟩:=Dk.all (ds:=r) fun x hx=>h x (by simp [hx])
    refine⟨?_,?_,?_,?_⟩
    · simp only [Qs,a1,b1,Bool.and_self]
    · simp only [gU,a2,b2,Bool.and_self]
    · simp only [jX,OU,Nat.succ_mul]
      lia
    · simp only [OQ];lia
theorem Dk.tup{n dep m:Nat}{ds:List MT}(h:∀d∈ds,Dk n dep d)(hl:ds.length≤m):Dk (1+m*n) (dep+2) (.tuple ds):=by
  obtain⟨b1,b2,b3,b4⟩:=Dk.all h
  refine⟨b1,b2,?_,?_⟩
  · simp only [L2.cnt]
    have:=Nat.mul_le_mul_right n hl
    lia
  · simp only [Oj];lia
theorem Dk.ok{n dep:Nat}{d:MT}(h:Dk n dep d)(h1:n≤8000)(h2:dep≤60):d.showable=true∧d.depth≤60∧d.shown.length≤Nl:=by
  have:=ql h.2.1 h.1
  have sl:Nl=16777216:=NU
  have:=h.2.2.1
  exact⟨h.1,NG h.2.2.2 h2,by lia⟩
theorem Dk.ints{ns:List Int}{m:Nat}(hl:ns.length≤m)(h:∀r∈ns,C9 r):Dk (1+m) 4 (.tuple (ns.map .int)):=by
  have:=Dk.tup (n:=1) (dep:=2) (m:=m) (ds:=ns.map PyData.int) (fun d hd=>by
    obtain⟨x,hx,rfl⟩:=OI.mp hd
    exact Dk.int (h x hx)) (by rw [NC];exact hl)
  simpa using this
section
variable{K:MS}{H:Hp}
theorem Dk.bools{ns:List Bool}{m:Nat}(hl:ns.length≤m):Dk (1+m) 4 (.tuple (ns.map .bool)):=by
  have:=Dk.tup (n:=1) (dep:=2) (m:=m) (ds:=ns.map PyData.bool) (fun d hd=>by
    obtain⟨x,hx,rfl⟩:=OI.mp hd
    exact Dk.bool x) (by rw [NC];exact hl)
  simpa using this
def cj(t:lw):MT:=.tuple [.int t.one,.int t.other,.tuple [.int t.top,.int t.bot],.int t.worth]
def aR(W:aU):MT:=.tuple [.int W.things,.tuple (W.ties.map cj),.tuple (W.pat.map .int),.int W.asks]
def dO(asked taken:List Int):MT:=.tuple [.tuple (asked.map .int),.tuple (taken.map .int)]
end
theorem xX:∀{bs:List Bool} {us:List Kg} {i:Nat} {v:Kg},aP (bs.map V.bl) us→us[i]?=some v→∃b,bs[i]?=some b∧v=.bool b
  | [],us,i,v,r,e=>by cases r;simp at e
  | b::bs,us,i,v,r,e=>by
    cases r with
    | cons p q=>
      cases i with
      | zero=>simp at e;subst e;cases p;exact⟨b,rfl,rfl⟩
      | succ i=>
        obtain⟨c,h1,h2⟩:=xX (bs:=bs) (i:=i) (v:=v) q (by simpa using e)
        exact⟨c,by simpa using h1,h2⟩
theorem B4(bs:List Bool):((OX bs.length).all fun i=>(bs[i]?).getD true)=bs.all id:=by
  rw [Qu,NQ,NQ]
  constructor
  · intro h b hb
    obtain⟨i,hi,rfl⟩:=List.getElem_of_mem hb
    have:=h i (PL.mpr hi)
    rw [Ot hi] at this
    exact this
  · intro h i hi
    have hi':=PL.mp hi
    rw [Ot hi']
    exact h _ (Qv hi')
section
variable{X:Cx}
theorem x_{k:Nat}{K:MS}(hr:bI k X.A)(hK:X.K=K):cM X (.builtin "all") (fun xs H Q=>∃(l:xM) (bs:List Bool),xs=[.ref l]∧gF K H l (bs.map V.bl)∧Q (.bl (bs.all id)) H):=by
  intro pins s σ H xs us Q I r h
  subst hK
  obtain⟨l,bs,rfl,hs,q⟩:=h
  obtain⟨u,rfl,ru⟩:=iI r
  cases ru
  obtain⟨its,rv,p,hz⟩:=I.list hs
  have hl:=p.isList
  have lt:l < s.heap.objs.size:=by obtain⟨_,e,_⟩:=hl;exact Nt e
  refine PySem.call_all_walk (wpAny_pyIter_list hl ?_)
  refine⟨s.heap.objs.size,[s.heap.objs.size,l],[s.heap.objs.size],its.toArray.size,_,_,fun i=>(bs[i]?).getD true,rfl,Walks.list (A:=X.A.in1) hr.hd _ l (Oc lt) its.toArray,⟨⟨_,Oa _ rfl,rfl,rfl⟩,hl.push _⟩,fun i v s' Q' E' hP hQ=>?_,fun h' tk hk=>?_⟩
  · obtain⟨b,e,rfl⟩:=xX rv (by simpa using hP)
    simp only [e,Qt] at hQ
    exact PM hQ
  · have e:its.toArray.size=bs.length:=by have:=rv.length;rw [NC] at this;simpa using this.symm
    rw [e,B4]
    refine⟨.bl (bs.all id),H,I.kept fun b x e=>hk b x (fun hm=>?_) (NH _ e),rfl,q⟩
    rw [NN.mp hm] at e
    exact OS _ (Nt e)
end
theorem xZ:OA "all"=some (.builtin "all"):=by decide+kernel
section
variable{prog:MZ}{w:MV}{A:Nb}{E:Kg→MP→Prop}{s:MP}
end
structure Sc (prog:MZ) (w:MV) (it l:xM) (St:Nat→MY→Prop) (Sq:MY→Array Kg→Prop):Prop where
  stay:∀{k h h'},St k h→(∀o,h.get? it=some o→h'.get? it=some o)→St k h'
  live:∀{k h},St k h→∃o,h.get? it=some o∧∀v,o.data≠.cell v
  row:∀{h h' xs},Sq h xs→(∀o,h.get? l=some o→h'.get? l=some o)→Sq h' xs
  next:∀{A:Nb} {s:MP} {E:Kg→MP→Prop} {Q:Kg→MP→Prop} {k:Nat} {xs:Array Kg} {x:Kg},St k s.heap→Sq s.heap xs→xs[k]?=some x→(∀g,St (k+1) g→Pz it s.heap g→Q x {s with heap:=g})→Nc (Ng prog w) A (Rh (.ref it)) Q E s
  last:∀{A:Nb} {s:MP} {E:Kg→MP→Prop} {Q:Kg→MP→Prop} {k:Nat} {xs:Array Kg},A.handled=none→St k s.heap→Sq s.heap xs→xs[k]?=none→(∀g e,Heap.ExtBut it s.heap g→(∃o,g.get? e=some o∧o.cls=.type "StopIteration")→E (.ref e) {s with heap:=g})→Nc (Ng prog w) A (Rh (.ref it)) Q E s
structure Jh (z TI TO i1 i2 l1 l2:xM):Prop where
  a1:TO≠z
  a2:i1≠z
  a3:i2≠z
  a4:TO≠i1
  a5:TO≠i2
  a6:i1≠i2
  b1:l1≠z
  b2:l1≠TO
  b3:l1≠i1
  b4:l1≠i2
  c1:l2≠z
  c2:l2≠TO
  c3:l2≠i1
  c4:l2≠i2
section
variable{prog:MZ}{w:MV}{A:Nb}{E:Kg→MP→Prop}{s:MP}{z TI TO i1 i2 l1 l2:xM}{k:Nat}{xs ys:Array Kg}{a b:Kg}{S1 S2:Nat→MY→Prop}{R1 R2:MY→Array Kg→Prop}
end
section
variable{X:Cx}{pins:List (xM × Obj)}{σ:L2.St}{H:Hp}{s:MP}{h':MY}
end
section
variable{prog:MZ}{w:MV}{A:Nb}{E:Kg→MP→Prop}{s:MP}
end
def Dg(h:MY)(z TI TO:xM)(a:xM)(f:Bool):Prop:=h.get? z=some {cls:=.type "zip",data:=.fields #[rawInt a,.bool f,.bool false,.ref TI,.ref TO]}
section
variable{prog:MZ}{w:MV}{A:Nb}{E:Kg→MP→Prop}{s:MP}{z TI TO i1 i2 l1 l2:xM}{k:Nat}{xs ys:Array Kg}{a:xM}{f:Bool}{S1 S2:Nat→MY→Prop}{R1 R2:MY→Array Kg→Prop}
end
structure ZL (S z TI TO i1 i2 l1 l2:xM) (xs ys:Array Kg) (i:Nat) (h:MY):Prop where
  pr:IsPair h TI (.ref i1) (.ref i2)
  t1:h.IsTupleIter i1 l1 i
  t2:h.IsTupleIter i2 l2 i
  s1:h.IsTuple l1 xs
  s2:h.IsTuple l2 ys
  ot:∃o,h.get? TO=some o
  zs:(IsZip h z TI TO .none∧∃a b,IsPair h TO a b)∨∃a f oa,Dg h z TI TO a f∧h.get? a=some oa∧a≠S∧a≠z∧a≠i1∧a≠i2
structure Jg (S z TO i1 i2:xM) (xs ys:Array Kg) (h:MY) (acc:Array Kg) (i:Nat):Prop where
  sz:acc.size=i
  at_:∀(j:Nat) (v:Kg),acc[j]?=some v→∃(p:xM) (x y:Kg),v=.ref p∧xs[j]?=some x∧ys[j]?=some y∧IsPair h p x y∧p≠S∧p≠z∧p≠TO∧p≠i1∧p≠i2
  lo:∀(j:Nat) (p:xM),acc[j]?=some (.ref p)→S < p
  JY:∀(i j:Nat) (p q:xM),i < j→acc[i]?=some (.ref p)→acc[j]?=some (.ref q)→p < q
section
variable{prog:MZ}{w:MV}{A:Nb}{R:Result→MP→Prop}{S z TI TO i1 i2 l1 l2:xM}{xs ys:Array Kg}{n:Nat}
end
section
variable{X:Cx}{pins:List (xM × Obj)}{σ:L2.St}{H H':Hp}{s:MP}{h':MY}
end
section
variable{prog:MZ}{w:MV}{A:Nb}{E:Kg→MP→Prop}{s:MP}{e it l:xM}{k:Nat}{xs:Array Kg}{S:Nat→MY→Prop}{R:MY→Array Kg→Prop}
end
section
variable{X:Cx}{pins:List (xM × Obj)}{σ:L2.St}{H:Hp}{s:MP}
end
section
variable{X:Cx}{a:MU}{ta:TA}{p p2 pos pos2:Pos}
end
theorem xm:fillsNumberSlot (.type "tuple") "mul"=pure false:=
  PySem.fillsNumberSlot_seq (id:="tuple.__mul__") (r:=some (.builtin "tuple.__rmul__")) PZ.lookup (by decide+kernel) F.slot_tuple_rmul.lookup (by decide+kernel)
theorem Fc:seqRepeat? (.type "tuple")=pure (some (.builtin "tuple.__mul__")):=by
  unfold seqRepeat?;rw [PySem.seqSlot_of (T:="tuple") (name:="__mul__") (id:="tuple.__mul__") PZ.lookup (by decide+kernel),PySem.seqSlot_of (T:="tuple") (name:="__rmul__") (id:="tuple.__rmul__") F.slot_tuple_rmul.lookup (by decide+kernel)];rfl
theorem B3(a:Int)(t:Tok)(l:xM)(items:Array Kg)(n:Nat)(dd:Option xM)(sl:Array (Option Kg)):
    Meets (Builtin.«int.__rmul__» ⟨[.int a t,.ref l],[]⟩) (fun _ R s=>s.heap.get? l=some {cls:=.type "tuple",dict:=dd,data:=.seq items n,slots:=sl}∧R (.ok (.ret Value.notImplemented)) s):=
  .of_wp fun prog w A R s h=>by obtain⟨hp,g,d,tk,os⟩:=s;obtain⟨hl,h⟩:=h;wp_walk;exact⟨_,rfl,h⟩
theorem Ef(l:xM)(x:Kg)(n:Nat)(k:Int)(u:Tok)(dd:Option xM)(sl:Array (Option Kg))(h0:2≤k)(h1:k≤100000):
    Meets (Builtin.«tuple.__mul__» ⟨[.ref l,.int k u],[]⟩) (fun _ R s=>s.heap.get? l=some {cls:=.type "tuple",dict:=dd,data:=.seq #[x] n,slots:=sl}∧
      R (.ok (.ret (.ref s.heap.objs.size))) {s with heap:=s.heap.push {cls:=.type "tuple",data:=.seq (Nk k.toNat x).toArray}}):=
  .of_wp fun prog w A R s h=>by
    obtain⟨hp,g,d,tk,os⟩:=s;obtain⟨hl,h⟩:=h
    have f1:=QR
    have c1:¬(decide (k < -(2 ^ 63)) || decide (k≥2 ^ 63))=true:=by simp;lia
    have c2:¬((#[x]:Array Kg).isEmpty || k==1)=true:=by simp;lia
    have c3:¬(decide (k≤0) || (#[x]:Array Kg).isEmpty)=true:=by simp;lia
    have c4:¬(((#[x]:Array Kg).size:Int)*k > (2 ^ 63 - 1) / 8):=by simp;lia
    have c5:¬QS (((#[x]:Array Kg).size:Int)*k)=true:=by
      unfold QS;rw [NU];simp;lia
    wp_walk using Pr hl
    rw [if_neg c1]
    wp_walk using Pr hl
    rw [if_neg c2]
    wp_walk using Pr hl
    rw [if_neg c3]
    wp_walk using Pr hl
    rw [if_neg c4]
    show Nc _ _ (if QS (((#[x]:Array Kg).size:Int)*k)=true then _ else _) _ _ _
    rw [if_neg c5]
    have f0:∀(m:Nat) (acc:Array Kg),PH (fun x1 x2=>x1++x2) acc (Nk m #[x])=acc++(Nk m x).toArray:=by
      intro m
      induction m with
      | zero=>intro acc;simp
      | succ m ih=>intro acc;rw [Pa,List.foldl_cons,ih,Pa];apply Array.toList_inj.mp;simp
    have e:PH (fun x1 x2=>x1++x2) #[] (Nk k.toNat #[x])=(Nk k.toNat x).toArray:=by rw [f0];simp
    show Nc _ _ (PF (PH (fun x1 x2=>x1++x2) #[] (Nk k.toNat #[x])) >>= fun v=>ret v) _ _ _
    rw [e]
    unfold PF
    refine Ni (Pj ?_ (by show(Nk k.toNat x).toArray.size≤Nl;rw [Nx,QJ,NU];lia))
    exact Nm ⟨_,rfl,h⟩
theorem Bl(l:xM)(x:Kg)(n:Nat)(u:Tok)(dd:Option xM)(sl:Array (Option Kg)):
    Meets (Builtin.«tuple.__mul__» ⟨[.ref l,.int 0 u],[]⟩) (fun _ R s=>s.heap.get? l=some {cls:=.type "tuple",dict:=dd,data:=.seq #[x] n,slots:=sl}∧R (.ok (.ret (.ref s.heap.objs.size))) {s with heap:=s.heap.push {cls:=.type "tuple",data:=.seq #[]}}):=
  .of_wp fun prog w A R s h=>by
    obtain⟨hp,g,d,tk,os⟩:=s;obtain⟨hl,h⟩:=h;have f1:=QR
    have c2:¬((#[x]:Array Kg).isEmpty || (0:Int)==1)=true:=by simp
    wp_walk using Pr hl
    first | rw [if_neg c2] | skip
    wp_walk using Pr hl
    exact⟨_,rfl,h⟩
theorem Bm(l:xM)(x:Kg)(n:Nat)(u:Tok)(dd:Option xM)(sl:Array (Option Kg)):
    Meets (Builtin.«tuple.__mul__» ⟨[.ref l,.int 1 u],[]⟩) (fun _ R s=>s.heap.get? l=some {cls:=.type "tuple",dict:=dd,data:=.seq #[x] n,slots:=sl}∧R (.ok (.ret (.ref l))) s):=
  .of_wp fun prog w A R s h=>by
    obtain⟨hp,g,d,tk,os⟩:=s;obtain⟨hl,h⟩:=h;have f1:=QR
    wp_walk using Pr hl
    exact⟨_,rfl,h⟩
section
variable{X:Cx}
def zP(K:MS):R2:=fun x y H Q=>∃a k v,x=.ref a∧y=.int k∧dN K H a [v]∧0≤k∧k≤100000∧∀p H',ao H H'→dN K H' p (Nk k.toNat v)→Q (.ref p) H'
theorem BG:gf X (NM .Mult) (zP X.K):=by
  intro pins s σ H x y v u Q I rx ry h
  obtain⟨a,k,z,rfl,rfl,ha,k0,k1,q⟩:=h
  cases rx
  obtain⟨t,rfl⟩:=ry
  obtain⟨its,r,p,hz⟩:=I.tuple ha
  obtain⟨uz,rfl,rz⟩:=iI r
  obtain⟨⟨cls,dd,data,sl⟩,ho,hc,n,hd⟩:=id p
  simp only at hc hd
  subst hc hd
  refine wpAny_binaryOp_repeat_ref (T:="tuple") (U:="int") (by decide) ⟨_,ho,rfl⟩ (fun s'=>PY s' k t) xm F.fills_int_mul Qo Fc F.slot_int_index.lookup (Ow Qo (PY s k t) F.entry_int_rmul (F.args_int_rmul_2 _ _) (B3 k t a #[uz] n dd sl) ⟨ho,rfl,⟨_,ho,rfl⟩,?_⟩)
  have new:∀m:Nat,m=k.toNat→EP X pins σ Q (.ref s.heap.objs.size) {s with heap:=s.heap.push {cls:=.type "tuple",data:=.seq (Nk m uz).toArray},toks:=s.toks}:=fun m hm=>by
    have hf:H s.heap.objs.size=none:=I.hok.fresh (Nn _)
    have vv:∀j:Nat,aP (Nk j z) (Nk j uz):=fun j=>by
      induction j with
      | zero=>exact .nil
      | succ j ih=>exact .cons rz ih
    refine⟨.ref s.heap.objs.size,_,I.laid (t':=s.toks) (o:=.tup (Nk m z)) (fun b ob q=>NH _ q) (Nn _) ⟨by rw [QJ,NU];lia,_,vv m,qB.new _ _⟩,rfl,q _ _ (ao.new hf) (dN.of (by rw [aq,hm]))⟩
  rcases(by lia:k=0∨k=1∨2≤k) with e | e | e
  · subst e
    exact Ow PZ ⟨_,ho,rfl⟩ F.entry_tuple_mul (F.args_tuple_mul_2 _ _) (Bl a uz n t dd sl) ⟨ho,new 0 rfl⟩
  · subst e
    exact Ow PZ ⟨_,ho,rfl⟩ F.entry_tuple_mul (F.args_tuple_mul_2 _ _) (Bm a uz n t dd sl) ⟨ho,⟨.ref a,H,I,rfl,q a H (ao.refl H) ha⟩⟩
  · exact Ow PZ ⟨_,ho,rfl⟩ F.entry_tuple_mul (F.args_tuple_mul_2 _ _) (Ef a uz n k t dd sl e k1) ⟨ho,new _ rfl⟩
end
section
variable{prog:MZ}{w:MV}{A:Nb}{E:Kg→MP→Prop}{s:MP}
end
section
variable{X:Cx}{a:MU}{ta:TA}{p p2 p3 pos pos2 pos3:Pos}
end
section
variable{prog:MZ}{w:MV}{A:Nb}{E:Kg→MP→Prop}{s:MP}
end
section
variable{X:Cx}{K:MS}{es:List MU}{k0:Nat}{tp:Pos}{a:MU}{ta:TA}{p pos:Pos}
end
theorem xu{X:Cx}:gf X (NO .IsNot) (fun x y H Q=>∃b c,x=.bl b∧y=.bl c∧Q (.bl (!(b==c))) H):=by
  intro pins s σ H x y v u Q I rx ry h
  obtain⟨b,c,rfl,rfl,q⟩:=h
  cases rx;cases ry
  refine wpAny_isNot_plain (by cases b<;>cases c<;>rfl) ⟨.bl (!(b==c)),H,I,?_,q⟩
  show Value.bool _=Value.bool _
  cases b<;>cases c<;>rfl
section
variable{prog:MZ}{w:MV}{A:Nb}{E:Kg→MP→Prop}{s:MP}
end
section
variable{prog:MZ}{w:MV}{A:Nb}{E:Kg→MP→Prop}{s:MP}
end
section
variable{prog:MZ}{w:MV}{A:Nb}{E:Kg→MP→Prop}{s:MP}
end
inductive ui where
  | vi (k:Int)
  | vb (x:Bool)
  | vn
  | vp (a:xM) (p q:Int)
def ui.toV:ui→V
  | .vi k=>.int k
  | .vb x=>.bl x
  | .vn=>.non
  | .vp a _ _=>.ref a
def ui.toD:ui→MT
  | .vi k=>.int k
  | .vb x=>.bool x
  | .vn=>.none
  | .vp _ p q=>.tuple [.int p,.int q]
def ui.ok(K:MS)(F:Hp):ui→Prop
  | .vp a p q=>dN K F a [.int p,.int q]
  | _=>True
theorem ui.ok.mono{K:MS}{F F':Hp}(h:ao F F'){a:ui}(q:a.ok K F):a.ok K F':=by
  cases a<;>first | exact h.tup q | trivial
mutual
def DA(K:MS)(F:Hp):MT→V→Prop
  | .none,v=>v=.non
  | .bool b,v=>v=.bl b
  | .int i,v=>v=.int i
  | .str x,v=>v=.str x
  | .tuple ds,v=>∃a xs,v=.ref a∧dN K F a xs∧aN K F ds xs
  | .list ds,v=>∃a xs,v=.ref a∧gF K F a xs∧aN K F ds xs
  | .dict kvs,v=>∃(a:xM) (m:List (Int × ui)),v=.ref a∧F a=some (.dK (m.map fun p=>(Sum.inl p.1,p.2.toV)))∧kvs=m.map (fun p=>(PyData.int p.1,p.2.toD))∧∀p∈m,p.2.ok K F
def aN(K:MS)(F:Hp):List MT→List V→Prop
  | [],xs=>xs=[]
  | d::ds,xs=>∃x r,xs=x::r∧DA K F d x∧aN K F ds r
end
mutual
theorem DA.mono{K:MS}{F F':Hp}(h:ao F F'):∀{d:MT} {v:V},DA K F d v→DA K F' d v
  | .none,_,q=>by simp only [DA] at q ⊢;exact q
  | .bool b,_,q=>by simp only [DA] at q ⊢;exact q
  | .int i,_,q=>by simp only [DA] at q ⊢;exact q
  | .str x,_,q=>by simp only [DA] at q ⊢;exact q
  | .tuple ds,_,q=>by
    simp only [DA] at q ⊢
    obtain⟨a,xs,e,s,r⟩:=q
    exact⟨a,xs,e,h.tup s,aN.mono h r⟩
  | .list ds,_,q=>by
    simp only [DA] at q ⊢
    obtain⟨a,xs,e,s,r⟩:=q
    exact⟨a,xs,e,h.seq s,aN.mono h r⟩
  | .dict _,_,q=>by
    simp only [DA] at q ⊢
    obtain⟨a,m,e,s,k,o⟩:=q
    exact⟨a,m,e,h _ _ s,k,fun p hp=>(o p hp).mono h⟩
theorem aN.mono{K:MS}{F F':Hp}(h:ao F F'):∀{ds:List MT} {xs:List V},aN K F ds xs→aN K F' ds xs
  | [],_,q=>by simp only [aN] at q ⊢;exact q
  | d::ds,_,q=>by
    simp only [aN] at q ⊢
    obtain⟨x,r,e,a,b⟩:=q
    exact⟨x,r,e,DA.mono h a,aN.mono h b⟩
end
section
variable{K:MS}{F:Hp}
theorem aN.len:∀{ds:List MT} {xs:List V},aN K F ds xs→ds.length=xs.length
  | [],_,q=>by simp only [aN] at q;subst q;rfl
  | d::ds,_,q=>by
    simp only [aN] at q
    obtain⟨x,r,e,a,b⟩:=q
    subst e
    simp [aN.len b]
theorem aN.get:∀{ds:List MT} {xs:List V} {i:Nat} {d:MT},aN K F ds xs→ds[i]?=some d→∃v,xs[i]?=some v∧DA K F d v
  | [],_,_,_,_,h=>by simp at h
  | d::ds,_,i,d',q,h=>by
    simp only [aN] at q
    obtain⟨x,r,e,a,b⟩:=q
    subst e
    cases i with
    | zero=>simp at h;subst h;exact⟨x,rfl,a⟩
    | succ i=>
      obtain⟨v,h1,h2⟩:=aN.get (i:=i) b (by simpa using h)
      exact⟨v,by simpa using h1,h2⟩
theorem aN.append:∀{ds es:List MT} {xs ys:List V},aN K F ds xs→aN K F es ys→aN K F (ds++es) (xs++ys)
  | [],_,_,_,q,s=>by simp only [aN] at q;subst q;simpa using s
  | d::ds,es,_,ys,q,s=>by
    simp only [aN] at q
    obtain⟨x,r,e,a,b⟩:=q
    subst e
    simp only [Pd,aN]
    exact⟨x,_,rfl,a,aN.append b s⟩
theorem aN.one{d:MT}{v:V}(h:DA K F d v):aN K F [d] [v]:=by simp only [aN];exact⟨_,_,rfl,h,rfl⟩
theorem aN.nil:aN K F [] []:=by simp only [aN]
theorem aN.cons{d:MT}{v:V}{ds:List MT}{vs:List V}(h:DA K F d v)(r:aN K F ds vs):aN K F (d::ds) (v::vs):=by simp only [aN];exact⟨_,_,rfl,h,r⟩
theorem aN.drop:∀{ds:List MT} {xs:List V} (n:Nat),aN K F ds xs→aN K F (ds.drop n) (xs.drop n)
  | _,_,0,q=>q
  | [],_,n+1,q=>by simp only [aN] at q;subst q;exact aN.nil
  | d::ds,_,n+1,q=>by
    simp only [aN] at q
    obtain⟨x,r,e,a,b⟩:=q
    subst e
    simpa using aN.drop n b
theorem aN.take:∀{ds:List MT} {xs:List V} (n:Nat),aN K F ds xs→aN K F (ds.take n) (xs.take n)
  | _,_,0,q=>by simpa using aN.nil
  | [],_,n+1,q=>by simp only [aN] at q;subst q;exact aN.nil
  | d::ds,_,n+1,q=>by
    simp only [aN] at q
    obtain⟨x,r,e,a,b⟩:=q
    subst e
    simpa using aN.cons a (aN.take n b)
theorem aN.erase:∀{ds:List MT} {xs:List V} (n:Nat),aN K F ds xs→aN K F (ds.eraseIdx n) (xs.eraseIdx n)
  | [],_,_,q=>by simp only [aN] at q;subst q;exact aN.nil
  | e::ds,_,n,q=>by
    simp only [aN] at q
    obtain⟨x,r,e,a,b⟩:=q
    subst e
    cases n with
    | zero=>exact b
    | succ n=>exact aN.cons a (aN.erase n b)
theorem aN.ints:∀{ns:List Int} {xs:List V},aN K F (ns.map .int) xs↔ xs=ns.map V.int
  | [],xs=>by simp [aN]
  | n::ns,xs=>by
    simp only [ND,aN,DA]
    constructor
    · rintro⟨x,r,e,rfl,q⟩;rw [e,aN.ints.mp q]
    · rintro rfl;exact⟨_,_,rfl,rfl,aN.ints.mpr rfl⟩
theorem aN.bools:∀{ns:List Bool} {xs:List V},aN K F (ns.map .bool) xs↔ xs=ns.map V.bl
  | [],xs=>by simp [aN]
  | n::ns,xs=>by
    simp only [ND,aN,DA]
    constructor
    · rintro⟨x,r,e,rfl,q⟩;rw [e,aN.bools.mp q]
    · rintro rfl;exact⟨_,_,rfl,rfl,aN.bools.mpr rfl⟩
theorem bO{i:Int}{v:V}:DA K F (.int i) v↔ v=.int i:=by simp only [DA]
theorem cT{b:Bool}{v:V}:DA K F (.bool b) v↔ v=.bl b:=by simp only [DA]
theorem ee{v:V}:DA K F .none v↔ v=.non:=by simp only [DA]
theorem ik{x:Str}{v:V}:DA K F (.str x) v↔ v=.str x:=by simp only [DA]
theorem c9{ds:List MT}{v:V}:DA K F (.tuple ds) v↔ ∃a xs,v=.ref a∧dN K F a xs∧aN K F ds xs:=by simp only [DA]
theorem eI{ds:List MT}{v:V}:DA K F (.list ds) v↔ ∃a xs,v=.ref a∧gF K F a xs∧aN K F ds xs:=by simp only [DA]
end
inductive Sv where
  | d (x:MT)
  | l (xs:List MT)
  /-- a list of lists that nobody else holds -/
  | n (xss:List (List MT))
abbrev En:=List (Option Sv)
inductive Rv where
  | d (x:MT)
  | l (xs:List MT)
  | s (i:Nat)
def Fp(σ:L2.St)(e:En)(H:Hp)(i:Nat)(a:xM):Prop:=(∃xs:List MT,e[i]?=some (some (Sv.l xs))∧σ[i]?=some (some (.ref a)))∨
  ∃(xss:List (List MT)) (l:xM) (bs:List xM),e[i]?=some (some (Sv.n xss))∧σ[i]?=some (some (.ref l))∧H l=some (.lst (bs.map V.ref))∧(a=l∨a∈bs)
def bw(σ:L2.St)(e:En)(H:Hp)(a:xM):Prop:=∃i,Fp σ e H i a
structure aY (K:MS) (F H:Hp) (σ:L2.St) (e:En):Prop where
  sm:ao F H
  len:σ.length=e.length
  dat:∀(i:Nat) (x:MT),e[i]?=some (some (.d x))→∃v,σ[i]?=some (some v)∧DA K F x v
  own:∀(i:Nat) (xs:List MT),e[i]?=some (some (.l xs))→∃l vs,σ[i]?=some (some (.ref l))∧F l=none∧H l=some (.lst vs)∧aN K F xs vs
  nst:∀(i:Nat) (xss:List (List MT)),e[i]?=some (some (.n xss))→∃(l:xM) (bs:List xM),σ[i]?=some (some (.ref l))∧F l=none∧H l=some (.lst (bs.map V.ref))∧bs.length=xss.length∧bs.Nodup∧l∉bs∧
    ∀(k:Nat) (b:xM) (ys:List MT),bs[k]?=some b→xss[k]?=some ys→F b=none∧∃us,H b=some (.lst us)∧aN K F ys us
  fp:∀(i j:Nat) (a:xM),Fp σ e H i a→Fp σ e H j a→i=j
theorem aY.inj{K:MS}{F H:Hp}{σ:L2.St}{e:En}(R:aY K F H σ e)(i j:Nat)(xs ys:List MT)(l:xM)(h1:e[i]?=some (some (.l xs)))(h2:e[j]?=some (some (.l ys)))(h3:σ[i]?=some (some (.ref l)))(h4:σ[j]?=some (some (.ref l))):i=j:=R.fp i j l (.inl ⟨xs,h1,h3⟩) (.inl ⟨ys,h2,h4⟩)
theorem aY.fpAt{K:MS}{F H:Hp}{σ:L2.St}{e:En}(R:aY K F H σ e){i:Nat}{a:xM}(h:Fp σ e H i a):F a=none∧∃vs,H a=some (.lst vs):=by
  rcases h with ⟨xs,h1,h2⟩ | ⟨xss,l,bs,h1,h2,h3,h4⟩
  · obtain⟨l,vs,g1,g2,g3,_⟩:=R.own i xs h1
    rw [h2] at g1;cases g1
    exact⟨g2,vs,g3⟩
  · obtain⟨l',bs',g1,g2,g3,g4,g5,g6,g7⟩:=R.nst i xss h1
    rw [h2] at g1;cases g1
    rw [h3] at g3
    have e1:bs=bs':=by
      have:=HO.lst.inj (Og g3)
      exact List.map_inj_right (fun _ _ z=>V.ref.inj z) |>.mp this
    subst e1
    rcases h4 with rfl | h4
    · exact⟨g2,_,h3⟩
    · obtain⟨k,hk⟩:=List.getElem?_of_mem h4
      have hk2:k < xss.length:=by rw [←g4];exact(MN hk).1
      obtain⟨c1,us,c2,_⟩:=g7 k a xss[k] hk (Ot hk2)
      exact⟨c1,us,c2⟩
def CQ:HO→Bool
  | .dK _=>true
  | .ins _ _ _=>true
  | _=>false
abbrev DI:={o:HO // CQ o=true}
structure cS (σ:L2.St) (F H:Hp) (e:En) (F' H':Hp) (e':En):Prop where
  sf:ao F F'
  dom:∀a,H' a=none→H a=none
  fr:∀a vs,F a=none→H a=some (.lst vs)→¬bw σ e H a→F' a=none
  lst:∀a vs,H a=some (.lst vs)→∃vs',H' a=some (.lst vs')
  tmp:∀a o,H a=some o→¬bw σ e H a→H' a=some o
  shp:∀i:Nat,(∃xs,e'[i]?=some (some (.l xs)))↔ (∃xs,e[i]?=some (some (.l xs)))
  ow:∀a,bw σ e' H' a→bw σ e H a∨H a=none
  fd:∀a (m:DI),F a=none→H a=some m.1→¬bw σ e H a→F' a=none
theorem cS.refl(σ:L2.St)(F H:Hp)(e:En):cS σ F H e F H e:=⟨ao.refl _,fun _ h=>h,fun _ _ h _ _=>h,fun _ vs h=>⟨vs,h⟩,fun _ _ h _=>h,fun _=>Iff.rfl,fun _ h=>.inl h,fun _ _ h _ _=>h⟩
theorem cS.trans{σ:L2.St}{F H F1 H1 F2 H2:Hp}{e e1 e2:En}(x:cS σ F H e F1 H1 e1)(y:cS σ F1 H1 e1 F2 H2 e2):cS σ F H e F2 H2 e2:=
  ⟨x.sf.trans y.sf,fun a h=>x.dom a (y.dom a h),fun a vs h n no=>let ⟨vs',q⟩:=x.lst a vs n;y.fr a vs' (x.fr a vs h n no) q (fun z=>(x.ow a z).elim no fun z=>by rw [n] at z;cases z),fun a vs h=>let ⟨vs',q⟩:=x.lst a vs h;y.lst a vs' q,
    fun a o h n=>y.tmp a o (x.tmp a o h n) (fun z=>(x.ow a z).elim n fun z=>by rw [h] at z;cases z),fun i=>(y.shp i).trans (x.shp i),fun a h=>(y.ow a h).elim (x.ow a) fun z=>.inr (x.dom a z),fun a m h n no=>y.fd a m (x.fd a m h n no) (x.tmp a _ n no) (fun z=>(x.ow a z).elim no fun z=>by rw [n] at z;cases z)⟩
def bZ(K:MS)(σ:L2.St)(H0 F H:Hp)(e:En):Rv→V→Prop
  | .d x,v=>DA K F x v
  | .l xs,v=>∃l vs,v=.ref l∧H0 l=none∧F l=none∧H l=some (.lst vs)∧aN K F xs vs∧¬bw σ e H l
  | .s i,v=>σ[i]?=some (some v)∧∃xs,e[i]?=some (some (.l xs))
section
variable{K:MS}{σ:L2.St}{H0 F H F' H':Hp}{e e':En}{r:Rv}{v:V}
theorem bZ.ext(h:bZ K σ H0 F H e r v)(x:cS σ F H e F' H' e'):bZ K σ H0 F' H' e' r v:=by
  cases r with
  | d y=>exact DA.mono x.sf h
  | l xs=>
    obtain⟨l,vs,e1,h1,h2,h3,h4,h5⟩:=h
    exact⟨l,vs,e1,h1,x.fr l _ h2 h3 h5,x.tmp l _ h3 h5,aN.mono x.sf h4,fun z=>(x.ow l z).elim h5 fun z=>by rw [h3] at z;cases z⟩
  | s i=>exact⟨h.1,(x.shp i).mpr h.2⟩
theorem bZ.weak{H1:Hp}(h:bZ K σ H1 F H e r v)(d:∀a,H1 a=none→H0 a=none):bZ K σ H0 F H e r v:=by
  cases r with
  | d y=>exact h
  | l xs=>
    obtain⟨l,vs,e1,h1,r⟩:=h
    exact⟨l,vs,e1,d l h1,r⟩
  | s i=>exact h
theorem aY.ownH(R:aY K F H σ e)(a:xM)(h:bw σ e H a):H a≠none:=by
  obtain⟨i,h⟩:=h
  obtain⟨_,vs,h2⟩:=R.fpAt h
  rw [h2];simp
theorem aY.freeF(R:aY K F H σ e){p:xM}(hp:H p=none):F p=none:=R.sm.free hp
theorem AU(R:aY K F H σ e)(h:∀l bs,H l=some (.lst bs)→bw σ e H l→H' l=some (.lst bs)){i:Nat}{a:xM}:Fp σ e H' i a↔ Fp σ e H i a:=by
  have key:∀xss l,e[i]?=some (some (.n xss))→σ[i]?=some (some (.ref l))→H' l=H l:=fun xss l h1 h2=>by
    obtain⟨l',bs,g1,g2,g3,_⟩:=R.nst i xss h1
    rw [h2] at g1;cases g1
    rw [g3]
    exact h l _ g3 ⟨i,.inr ⟨xss,l,bs,h1,h2,g3,.inl rfl⟩⟩
  constructor
  · rintro(h1 | ⟨xss,l,bs,h1,h2,h3,h4⟩)
    · exact .inl h1
    · exact .inr ⟨xss,l,bs,h1,h2,by rw [←key xss l h1 h2];exact h3,h4⟩
  · rintro(h1 | ⟨xss,l,bs,h1,h2,h3,h4⟩)
    · exact .inl h1
    · exact .inr ⟨xss,l,bs,h1,h2,by rw [key xss l h1 h2];exact h3,h4⟩
theorem aY.keep(R:aY K F H σ e)(sF:ao F F')(sm:ao F' H')(hf:∀a,bw σ e H a→F' a=none)(hh:∀a o,bw σ e H a→H a=some o→H' a=some o):aY K F' H' σ e∧∀a,bw σ e H' a↔ bw σ e H a:=by
  have fs:∀{i a},Fp σ e H' i a↔ Fp σ e H i a:=fun{i a}=>AU R fun l bs h1 h2=>hh l _ h2 h1
  refine⟨⟨sm,R.len,fun i x h=>let ⟨v,h1,h2⟩:=R.dat i x h;⟨v,h1,DA.mono sF h2⟩,fun i xs h=>?_,fun i xss h=>?_,fun i j a h1 h2=>R.fp i j a (fs.mp h1) (fs.mp h2)⟩,fun a=>⟨fun⟨i,h⟩=>⟨i,fs.mp h⟩,fun⟨i,h⟩=>⟨i,fs.mpr h⟩⟩⟩
  · obtain⟨l,vs,h1,h2,h3,h4⟩:=R.own i xs h
    have o:bw σ e H l:=⟨i,.inl ⟨xs,h,h1⟩⟩
    exact⟨l,vs,h1,hf l o,hh l _ o h3,h4.mono sF⟩
  · obtain⟨l,bs,h1,h2,h3,h4,h5,h6,h7⟩:=R.nst i xss h
    have o:bw σ e H l:=⟨i,.inr ⟨xss,l,bs,h,h1,h3,.inl rfl⟩⟩
    refine⟨l,bs,h1,hf l o,hh l _ o h3,h4,h5,h6,fun k b ys g1 g2=>?_⟩
    obtain⟨c1,us,c2,c3⟩:=h7 k b ys g1 g2
    have ob:bw σ e H b:=⟨i,.inr ⟨xss,l,bs,h,h1,h3,.inr (MR g1)⟩⟩
    exact⟨hf b ob,us,hh b _ ob c2,c3.mono sF⟩
theorem aY.same(R:aY K F H σ e)(s:ao H H'):aY K F H' σ e∧cS σ F H e F H' e:=by
  obtain⟨R',o'⟩:=R.keep (ao.refl F) (R.sm.trans s) (fun a ⟨i,h⟩=>(R.fpAt h).1) fun a o _ h=>s a o h
  exact⟨R',⟨ao.refl _,fun a h=>s.free h,fun _ _ h _ _=>h,fun a vs h=>⟨vs,s _ _ h⟩,fun a o h _=>s a o h,fun _=>Iff.rfl,fun a h=>.inl ((o' a).mp h),fun _ _ h _ _=>h⟩⟩
theorem aY.freeze(R:aY K F H σ e){p:xM}{o:HO}(hF:F p=none)(hp:H p=some o)(hn:¬bw σ e H p):aY K (bv F p o) H σ e∧ao F (bv F p o):=by
  have sF:ao F (bv F p o):=ao.new hF
  refine⟨(R.keep sF (fun b u q=>?_) (fun a ha=>?_) fun _ _ _ h=>h).1,sF⟩
  · by_cases z:b=p
    · subst z;rw [aq] at q;cases q;exact hp
    · rw [ar z] at q;exact R.sm _ _ q
  · obtain⟨i,hi⟩:=ha
    have z:a≠p:=fun z=>hn ⟨i,by rw [←z];exact hi⟩
    rw [ar z];exact(R.fpAt hi).1
theorem aY.notOwn(R:aY K F H σ e){p:xM}{o:HO}(hp:H p=some o)(hl:∀vs,o≠.lst vs):¬bw σ e H p:=fun⟨i,h⟩=>by
  obtain⟨_,vs,g⟩:=R.fpAt h
  rw [hp] at g;cases g
  exact hl _ rfl
theorem aY.newT(R:aY K F H σ e){p:xM}{vs:List V}(hp:H p=none):aY K (bv F p (.tup vs)) (bv H p (.tup vs)) σ e∧cS σ F H e (bv F p (.tup vs)) (bv H p (.tup vs)) e:=by
  have hF:=R.freeF hp
  obtain⟨R1,X1⟩:=R.same (ao.new hp (o:=.tup vs))
  obtain⟨R2,s2⟩:=R1.freeze (p:=p) hF aq (R1.notOwn aq (fun _ z=>nomatch z))
  refine⟨R2,⟨s2,X1.dom,fun a ws h n _=>?_,X1.lst,X1.tmp,X1.shp,X1.ow,fun a ws h n _=>?_⟩⟩
  all_goals
    have z:a≠p:=fun z=>by rw [z,hp] at n;cases n
    rw [ar z];exact h
theorem aY.sameOwn(R:aY K F H σ e)(s:ao H H')(a:xM):bw σ e H' a↔ bw σ e H a:=(R.keep (ao.refl F) (R.sm.trans s) (fun a ⟨i,h⟩=>(R.fpAt h).1) fun a o _ h=>s a o h).2 a
theorem aY.newL(R:aY K F H σ e){p:xM}{vs:List V}(hp:H p=none):aY K F (bv H p (.lst vs)) σ e∧cS σ F H e F (bv H p (.lst vs)) e∧F p=none∧¬bw σ e (bv H p (.lst vs)) p:=
  ⟨(R.same (ao.new hp)).1,(R.same (ao.new hp)).2,R.freeF hp,fun z=>R.ownH p ((R.sameOwn (ao.new hp) p).mp z) hp⟩
theorem aY.growT(R:aY K F H σ e){p:xM}{xs:List V}(s:ao H H')(hp:dN K H' p xs):∃F',aY K F' H' σ e∧cS σ F H e F' H' e∧dN K F' p xs:=by
  obtain⟨R1,X1⟩:=R.same s
  rcases hp with hp | hp
  · have key:∀o,H' p=some o→(∀vs,o≠.lst vs)→(∀m:DI,o≠m.1)→(∀G:Hp,G p=some o→Rd G p (.tup xs))→∃F',aY K F' H' σ e∧cS σ F H e F' H' e∧dN K F' p xs:=by
      intro o ho hl hm hr
      cases q:F p with
      | some u=>
        have:=R1.sm _ _ q
        rw [ho] at this;cases this
        exact⟨F,R1,X1,.inl (hr F q)⟩
      | none=>
        obtain⟨R2,s2⟩:=R1.freeze q ho (R1.notOwn ho hl)
        refine⟨_,R2,⟨s2,X1.dom,fun a ws h n _=>?_,X1.lst,X1.tmp,X1.shp,X1.ow,fun a ws h n _=>?_⟩,.inl (hr _ aq)⟩
        · have z:a≠p:=fun z=>by rw [z] at n;rw [s _ _ n] at ho;cases ho;exact hl _ rfl
          rw [ar z];exact h
        · have z:a≠p:=fun z=>by rw [z] at n;rw [s _ _ n] at ho;cases ho;exact hm _ rfl
          rw [ar z];exact h
    rcases hp with hp | ⟨ob,hp⟩
    · exact key _ hp (fun _ z=>nomatch z) (fun m z=>nomatch z ▸ m.2) fun G g=>.inl g
    · exact key _ hp (fun _ z=>nomatch z) (fun m z=>nomatch z ▸ m.2) fun G g=>.inr ⟨ob,g⟩
  · exact⟨F,R1,X1,.inr hp⟩
theorem bZ.frozen(R:aY K F H σ e){xs:List MT}(h:bZ K σ H0 F H e (.l xs) v):∃F',aY K F' H σ e∧ao F F'∧DA K F' (.list xs) v∧(∀a,F a=none→H0 a≠none→F' a=none):=by
  obtain⟨l,vs,rfl,h1,h2,h3,h4,h5⟩:=h
  obtain⟨R2,s2⟩:=R.freeze h2 h3 h5
  refine⟨_,R2,s2,?_,fun a ha hn=>?_⟩
  · rw [eI]
    exact⟨l,vs,rfl,.inl (.inl aq),aN.mono s2 h4⟩
  · have z:a≠l:=fun z=>hn (by rw [z];exact h1)
    rw [ar z];exact ha
def eH(e:En):Rv→Option (Bool × List MT)
  | .d (.tuple xs)=>some (false,xs)
  | .d (.list xs)=>some (true,xs)
  | .l xs=>some (true,xs)
  | .s i=>match e[i]? with
    | some (some (.l xs))=>some (true,xs)
    | _=>none
  | _=>none
theorem cI(R:aY K F H σ e)(h:bZ K σ H0 F H e r v){b:Bool}{xs:List MT}(q:eH e r=some (b,xs)):
    ∃p vs,v=.ref p∧aN K F xs vs∧(if b=true then gF K H p vs else dN K H p vs):=by
  cases r with
  | d x=>
    cases x with
    | tuple ds=>
      cases q
      obtain⟨a,ys,e1,e2,e3⟩:=c9.mp h
      exact⟨a,ys,e1,e3,R.sm.tup e2⟩
    | list ds=>
      cases q
      obtain⟨a,ys,e1,e2,e3⟩:=eI.mp h
      exact⟨a,ys,e1,e3,R.sm.seq e2⟩
    | _=>cases q
  | l ys=>
    cases q
    obtain⟨l,vs,e1,h1,h2,h3,h4,_⟩:=h
    exact⟨l,vs,e1,h4,.inl (.inl h3)⟩
  | s i=>
    obtain⟨h1,ys,h2⟩:=h
    simp only [eH,h2] at q
    cases q
    obtain⟨l,vs,e1,e2,e3,e4⟩:=R.own i _ h2
    rw [h1] at e1;cases e1
    exact⟨l,vs,rfl,e4,.inl (.inl e3)⟩
end
abbrev FE:=En→Option (Rv × En)
abbrev FT:=En→Option (Bool × En)
abbrev FA:=En→Option (List Rv × En)
def dr(K:MS)(σ:L2.St)(H0 F H:Hp)(e:En):List Rv→List V→Prop
  | [],vs=>vs=[]
  | r::rs,vs=>∃v ws,vs=v::ws∧bZ K σ H0 F H e r v∧dr K σ H0 F H e rs ws
def fE(K:MS)(f:FE):TE:=fun σ H Q=>∃F e r e',aY K F H σ e∧f e=some (r,e')∧∀F' H' v,cS σ F H e F' H' e'→aY K F' H' σ e'→bZ K σ H F' H' e' r v→Q v H'
def fT(K:MS)(f:FT):TT:=fun σ H Q=>∃F e b e',aY K F H σ e∧f e=some (b,e')∧∀F' H',cS σ F H e F' H' e'→aY K F' H' σ e'→Q b H'
def fA(K:MS)(f:FA):TA:=fun σ H Q=>∃F e rs e',aY K F H σ e∧f e=some (rs,e')∧∀F' H' vs,cS σ F H e F' H' e'→aY K F' H' σ e'→dr K σ H F' H' e' rs vs→Q vs H'
theorem PE.mono{X:Cx}{e:MU}{t t':TE}(h:PE X e t)(m:∀σ H Q,t' σ H Q→t σ H Q):PE X e t':=fun pins s σ H Q I q=>h pins s σ H Q I (m σ H Q q)
theorem PT.mono{X:Cx}{e:MU}{t t':TT}(h:PT X e t)(m:∀σ H Q,t' σ H Q→t σ H Q):PT X e t':=fun pins s σ H Q I q=>h pins s σ H Q I (m σ H Q q)
theorem PW.mono{X:Cx}{e:MU}{t t':TT}(h:PW X e t)(m:∀σ H Q,t' σ H Q→t σ H Q):PW X e t':=fun wh pins s σ H Q I q=>h wh pins s σ H Q I (m σ H Q q)
theorem PA.mono{X:Cx}{es:List MU}{t t':TA}(h:PA X es t)(m:∀σ H Q,t' σ H Q→t σ H Q):PA X es t':=fun pos pins s σ H Q I q=>h pos pins s σ H Q I (m σ H Q q)
section
variable{K:MS}{σ:L2.St}{H0 F H F' H':Hp}{e e':En}
theorem dr.weak{H1:Hp}(d:∀a,H1 a=none→H0 a=none):∀{rs:List Rv} {vs:List V},dr K σ H1 F H e rs vs→dr K σ H0 F H e rs vs
  | [],_,h=>h
  | r::rs,_,h=>by
    obtain⟨v,ws,rfl,h1,h2⟩:=h
    exact⟨v,ws,rfl,h1.weak d,dr.weak d h2⟩
theorem cS.frz{F'':Hp}(x:cS σ F H e F' H' e')(s:ao F' F'')(h:∀a,F' a=none→H a≠none→F'' a=none):cS σ F H e F'' H' e':=
  ⟨x.sf.trans s,x.dom,fun a vs h1 h2 h3=>h a (x.fr a vs h1 h2 h3) (by rw [h2];simp),x.lst,x.tmp,x.shp,x.ow,fun a m h1 h2 h3=>h a (x.fd a m h1 h2 h3) (by rw [h2];simp)⟩
def gj:List Rv→Option (List MT)
  | []=>some []
  | .d x::rs=>(gj rs).map (x::·)
  | .l xs::rs=>(gj rs).map (.list xs::·)
  | .s _::_=>none
theorem dr.frozen:∀{rs:List Rv} {vs:List V} {ds:List MT} {F:Hp},aY K F H σ e→dr K σ H0 F H e rs vs→gj rs=some ds→
    ∃F',aY K F' H σ e∧ao F F'∧aN K F' ds vs∧(∀a,F a=none→H0 a≠none→F' a=none)
  | [],_,_,F,R,h,q=>by
    cases q
    have h':_=[]:=h
    subst h'
    exact⟨F,R,ao.refl _,aN.nil,fun _ h _=>h⟩
  | .d x::rs,_,ds,F,R,h,q=>by
    obtain⟨v,ws,rfl,h1,h2⟩:=h
    obtain⟨ds',q1,rfl⟩:=ML q
    obtain⟨F',R',s',d',f'⟩:=dr.frozen R h2 q1
    exact⟨F',R',s',.cons (DA.mono s' h1) d',f'⟩
  | .l xs::rs,_,ds,F,R,h,q=>by
    obtain⟨v,ws,rfl,h1,h2⟩:=h
    obtain⟨ds',q1,rfl⟩:=ML q
    obtain⟨F',R',s',d',f'⟩:=dr.frozen R h2 q1
    obtain⟨l,us,rfl,g1,g2,g3,g4,g5⟩:=h1
    cases hl:F' l with
    | none=>
      have h1':bZ K σ H0 F' H e (.l xs) (.ref l):=⟨l,us,rfl,g1,hl,g3,aN.mono s' g4,g5⟩
      obtain⟨F2,R2,s2,d2,f2⟩:=h1'.frozen R'
      exact⟨F2,R2,s'.trans s2,.cons d2 (aN.mono s2 d'),fun a ha hn=>f2 a (f' a ha hn) hn⟩
    | some o=>
      have:=R'.sm _ _ hl
      rw [g3] at this;cases this
      exact⟨F',R',s',.cons (eI.mpr ⟨l,us,rfl,.inl (.inl hl),aN.mono s' g4⟩) d',f'⟩
end
section
variable{X:Cx}{K:MS}{a b c:MU}{fa fb:FE}{ft fu:FT}{pos:Pos}{es:List MU}{fs:FA}
def ab(i:Nat):FE:=fun e=>match e[i]? with
  | some (some (.d x))=>some (.d x,e)
  | some (some (.l _))=>some (.s i,e)
  | _=>none
def vC(x:MT):FE:=fun e=>some (.d x,e)
theorem Cn{i:Nat}{σ:L2.St}{H:Hp}{Q:VK}(h:fE K (ab i) σ H Q):oX i σ H Q:=by
  obtain⟨F,e,r,e',R,hf,q⟩:=h
  unfold ab at hf
  match h1:e[i]?,hf with
  | some (some (.d x)),hf=>
    cases hf
    obtain⟨v,h2,h3⟩:=R.dat i x h1
    exact⟨v,h2,q F H v (cS.refl _ _ _ _) R h3⟩
  | some (some (.n _)),hf=>cases hf
  | some (some (.l xs)),hf=>
    cases hf
    obtain⟨l,vs,h2,h3⟩:=R.own i xs h1
    exact⟨_,h2,q F H _ (cS.refl _ _ _ _) R ⟨h2,xs,h1⟩⟩
  | some none,hf=>cases hf
  | none,hf=>cases hf
theorem qv(i:Nat){x:Str}{pos:Pos}(hN:X.N[i]?=some x)(hv:FU X.env.scope x)(hd:(x==("__debug__":Str))=false)(hcd:(x==("__classdict__":Str))=false):PE X (.Name x pos) (fE K (ab i)):=(aZ hN hv hd hcd).mono fun _ _ _ h=>Cn h
theorem t_{x:MT}{v:V}{σ:L2.St}{H:Hp}{Q:VK}(hx:∀F,DA K F x v)(h:fE K (vC x) σ H Q):tC v σ H Q:=by
  obtain⟨F,e,r,e',R,hf,q⟩:=h
  cases hf
  exact q F H v (cS.refl _ _ _ _) R (hx F)
theorem ae{i j pos}:PE X (.Constant (.int i) j pos) (fE K (vC (.int i))):=EH.mono fun _ _ _ h=>t_ (fun _=>bO.mpr rfl) h
theorem qh{b j pos}:PE X (.Constant (.bool b) j pos) (fE K (vC (.bool b))):=GP.mono fun _ _ _ h=>t_ (fun _=>cT.mpr rfl) h
theorem eK{j pos}:PE X (.Constant .none j pos) (fE K (vC .none)):=EI.mono fun _ _ _ h=>t_ (fun _=>ee.mpr rfl) h
theorem aJ{x j pos}:PE X (.Constant (.str x) j pos) (fE K (vC (.str x))):=uU.mono fun _ _ _ h=>t_ (fun _=>ik.mpr rfl) h
theorem vV{x:Str}{v:V}{u:Kg}{pos:Pos}{y:MT}(hg:Gl X x)(hm:X.mg x=some u)(r:bF v u)(hy:∀F,DA K F y v)(hd:(x==("__debug__":Str))=false):PE X (.Name x pos) (fE K (vC y)):=(BK hg hm r hd).mono fun _ _ _ h=>t_ hy h
def f_(K:MS)(r:R2)(g:En→Rv→Rv→Option Rv):Prop:=
  ∀(σ:L2.St) (H0 F H:Hp) (e:En) (x y z:Rv) (v u:V) (Q:VK),aY K F H σ e→bZ K σ H0 F H e x v→bZ K σ H0 F H e y u→g e x y=some z→
    (∀F' H' w,cS σ F H e F' H' e→aY K F' H' σ e→bZ K σ H F' H' e z w→Q w H')→r v u H Q
def ax(g:En→Rv→Rv→Option Rv)(fa fb:FE):FE:=fun e=>(fa e).bind fun p=>(fb p.2).bind fun q=>(g q.2 p.1 q.1).map fun z=>(z,q.2)
theorem o_{r:R2}{g:En→Rv→Rv→Option Rv}(ho:f_ K r g){σ:L2.St}{H:Hp}{Q:VK}(h:fE K (ax g fa fb) σ H Q):FQ r (fE K fa) (fE K fb) σ H Q:=by
  obtain⟨F,e,z,e2,R,hf,q⟩:=h
  unfold ax at hf
  obtain⟨⟨x,e1⟩,h1,hf⟩:=MJ hf
  obtain⟨⟨y,e2'⟩,h2,hf⟩:=MJ hf
  obtain⟨z',h3,hf⟩:=ML hf
  cases hf
  refine⟨F,e,x,e1,R,h1,fun F1 H1 v X1 R1 A1=>⟨F1,e1,y,_,R1,h2,fun F2 H2 u X2 R2 A2=>?_⟩⟩
  have X12:=X1.trans X2
  refine ho σ H F2 H2 _ x y _ v u Q R2 (A1.ext X2) (A2.weak X1.dom) h3 fun F3 H3 w X3 R3 A3=>?_
  exact q F3 H3 w (X12.trans X3) R3 (A3.weak X12.dom)
theorem oA{op:Operator}{r:R2}{g:En→Rv→Rv→Option Rv}(hr:gf X (NM op) r)(ho:f_ K r g)(ha:PE X a (fE K fa))(hb:PE X b (fE K fb)):PE X (.BinOp a op b pos) (fE K (ax g fa fb)):=(CW hr ha hb).mono fun _ _ _ h=>o_ ho h
theorem EW{op:CmpOp}{r:R2}{g:En→Rv→Rv→Option Rv}(hr:gf X (NO op) r)(ho:f_ K r g)(ha:PE X a (fE K fa))(hb:PE X b (fE K fb))(hm:Ov op b=false):PE X (.Compare a [op] [b] pos) (fE K (ax g fa fb)):=(BJ hr ha hb hm).mono fun _ _ _ h=>o_ ho h
theorem GX{r:R2}{g:En→Rv→Rv→Option Rv}(hr:AE X r)(ho:f_ K r g)(ha:PE X a (fE K fa))(hb:PE X b (fE K fb))(hs:kg b):PE X (.Subscript a b pos) (fE K (ax g fa fb)):=(zh hr ha hb hs).mono fun _ _ _ h=>o_ ho h
def uh(g:En→Rv→Option Rv)(fa:FE):FE:=fun e=>(fa e).bind fun p=>(g p.2 p.1).map fun z=>(z,p.2)
def FJ(K:MS)(r:V→Hp→VK→Prop)(g:En→Rv→Option Rv):Prop:=
  ∀(σ:L2.St) (H0 F H:Hp) (e:En) (x z:Rv) (v:V) (Q:VK),aY K F H σ e→bZ K σ H0 F H e x v→g e x=some z→
    (∀F' H' w,cS σ F H e F' H' e→aY K F' H' σ e→bZ K σ H F' H' e z w→Q w H')→r v H Q
theorem Am{r:V→Hp→VK→Prop}{g:En→Rv→Option Rv}(ho:FJ K r g){σ:L2.St}{H:Hp}{Q:VK}(h:fE K (uh g fa) σ H Q):JC r (fE K fa) σ H Q:=by
  obtain⟨F,e,z,e2,R,hf,q⟩:=h
  unfold uh at hf
  obtain⟨⟨x,e1⟩,h1,hf⟩:=MJ hf
  obtain⟨z',h3,hf⟩:=ML hf
  cases hf
  refine⟨F,e,x,_,R,h1,fun F1 H1 v X1 R1 A1=>?_⟩
  refine ho σ H F1 H1 _ x _ v Q R1 A1 h3 fun F3 H3 w X3 R3 A3=>?_
  exact q F3 H3 w (X1.trans X3) R3 (A3.weak X1.dom)
theorem GY{op:UnaryOp}{r:V→Hp→VK→Prop}{g:En→Rv→Option Rv}(hr:HJ X (unaryOp op) r)(ho:FJ K r g)(ha:PE X a (fE K fa)):PE X (.UnaryOp op a pos) (fE K (uh g fa)):=(GQ hr ha).mono fun _ _ _ h=>Am ho h
def cZ:Rv→Option Bool
  | .d (.bool b)=>some b
  | _=>none
theorem eW{σ:L2.St}{H0 F H:Hp}{e:En}{r:Rv}{v:V}{b:Bool}(h:bZ K σ H0 F H e r v)(q:cZ r=some b):v=.bl b:=by
  unfold cZ at q
  split at q
  · cases q;exact cT.mp (show DA K F (.bool _) v from h)
  · cases q
theorem dF{σ:L2.St}{H0 F H:Hp}{e:En}{b:Bool}:bZ K σ H0 F H e (.d (.bool b)) (.bl b):=(cT (K:=K) (F:=F)).mpr rfl
def ay(f:FE):FT:=fun e=>(f e).bind fun p=>(cZ p.1).map fun b=>(b,p.2)
theorem ug{σ:L2.St}{H:Hp}{Q:Bool→Hp→Prop}(h:fT K (ay fa) σ H Q):fE K fa σ H fun x H'=>∃k,x=.bl k∧Q k H':=by
  obtain⟨F,e,b,e1,R,hf,q⟩:=h
  unfold ay at hf
  obtain⟨⟨x,e1'⟩,h1,hf⟩:=MJ hf
  obtain⟨b',h3,hf⟩:=ML hf
  cases hf
  exact⟨F,e,x,_,R,h1,fun F1 H1 v X1 R1 A1=>⟨_,eW A1 h3,q F1 H1 X1 R1⟩⟩
theorem EZ{op:CmpOp}{r:R2}{g:En→Rv→Rv→Option Rv}(hr:gf X (NO op) r)(ho:f_ K r g)(ha:PE X a (fE K fa))(hb:PE X b (fE K fb))(hm:Ov op b=false):PT X (.Compare a [op] [b] pos) (fT K (ay (ax g fa fb))):=
  (vT hr ha hb hm).mono fun σ H Q h=>by
    obtain⟨F,e,z,e2,R,hf,q⟩:=ug h
    exact o_ ho ⟨F,e,z,e2,R,hf,q⟩
theorem fU{e:MU}(h:PE X e (fE K fa))(he:∀whole,isTrue e X.env whole=(do let v ←whole;standAt e.pos;holding [v] (truthy v))):PT X e (fT K (ay fa)):=(zy h he).mono fun _ _ _ h=>ug h
def lU(f g:FT):FT:=fun e=>(f e).bind fun p=>if p.1=true then g p.2 else some (false,p.2)
def uf(f g:FT):FT:=fun e=>(f e).bind fun p=>if p.1=true then some (true,p.2) else g p.2
def lW(f:FT):FT:=fun e=>(f e).map fun p=>(!p.1,p.2)
theorem Ci{σ:L2.St}{H:Hp}{Q:Bool→Hp→Prop}(h:fT K (lU ft fu) σ H Q):Hh (fT K ft) (fT K fu) σ H Q:=by
  obtain⟨F,e,b,e1,R,hf,q⟩:=h
  unfold lU at hf
  obtain⟨⟨x,e1'⟩,h1,hf⟩:=MJ hf
  refine⟨F,e,x,e1',R,h1,fun F1 H1 X1 R1=>?_⟩
  cases x with
  | true=>exact⟨F1,e1',b,e1,R1,hf,fun F2 H2 X2 R2=>q F2 H2 (X1.trans X2) R2⟩
  | false=>cases hf;exact q F1 H1 X1 R1
theorem Fx{σ:L2.St}{H:Hp}{Q:Bool→Hp→Prop}(h:fT K (uf ft fu) σ H Q):IZ (fT K ft) (fT K fu) σ H Q:=by
  obtain⟨F,e,b,e1,R,hf,q⟩:=h
  unfold uf at hf
  obtain⟨⟨x,e1'⟩,h1,hf⟩:=MJ hf
  refine⟨F,e,x,e1',R,h1,fun F1 H1 X1 R1=>?_⟩
  cases x with
  | false=>exact⟨F1,e1',b,e1,R1,hf,fun F2 H2 X2 R2=>q F2 H2 (X1.trans X2) R2⟩
  | true=>cases hf;exact q F1 H1 X1 R1
theorem Cj{σ:L2.St}{H:Hp}{Q:Bool→Hp→Prop}(h:fT K (lW ft) σ H Q):Ho (fT K ft) σ H Q:=by
  obtain⟨F,e,b,e1,R,hf,q⟩:=h
  unfold lW at hf
  obtain⟨⟨x,e1'⟩,h1,hf⟩:=ML hf
  cases hf
  exact⟨F,e,x,_,R,h1,fun F1 H1 X1 R1=>q F1 H1 X1 R1⟩
variable{cf:List MU}
theorem rK(ha:PT X a (fT K ft)):PW X (.BoolOp .And [a] pos) (fT K ft):=BX ha
theorem ka(ha:PT X a (fT K ft)):PW X (.BoolOp .Or [a] pos) (fT K ft):=zz ha
theorem uZ(ha:PT X a (fT K ft))(hb:PW X (.BoolOp .And (b::cf) pos) (fT K fu)):PW X (.BoolOp .And (a::b::cf) pos) (fT K (lU ft fu)):=(ER ha hb).mono fun _ _ _ h=>Ci h
theorem oC(ha:PT X a (fT K ft))(hb:PW X (.BoolOp .Or (b::cf) pos) (fT K fu)):PW X (.BoolOp .Or (a::b::cf) pos) (fT K (uf ft fu)):=(CZ ha hb).mono fun _ _ _ h=>Fx h
theorem uY(ha:PT X a (fT K ft)):PT X (.UnaryOp .Not a pos) (fT K (lW ft)):=(zx ha).mono fun _ _ _ h=>Cj h
theorem pH{e:MU}(h:PW X e (fT K ft)):PT X e (fT K ft):=h.pt
def js(f g:FE):FE:=fun e=>(f e).bind fun p=>(cZ p.1).bind fun b=>if b=true then g p.2 else some (.d (.bool false),p.2)
def vj(f g:FE):FE:=fun e=>(f e).bind fun p=>(cZ p.1).bind fun b=>if b=true then some (.d (.bool true),p.2) else g p.2
def o8(f:FE):FE:=fun e=>(f e).bind fun p=>(cZ p.1).map fun b=>(.d (.bool (!b)),p.2)
theorem zF(ha:PE X a (fE K fa))(hb:PE X (.BoolOp .And (b::cf) pos) (fE K fb)):PE X (.BoolOp .And (a::b::cf) pos) (fE K (js fa fb)):=(EE ha hb).mono fun σ H Q h=>by
  obtain⟨F,e,z,e2,R,hf,q⟩:=h
  unfold js at hf
  obtain⟨⟨x,e1⟩,h1,hf⟩:=MJ hf
  obtain⟨b,h2,hf⟩:=MJ hf
  refine⟨F,e,x,e1,R,h1,fun F1 H1 v X1 R1 A1=>⟨b,eW A1 h2,?_⟩⟩
  cases b with
  | true=>exact⟨F1,e1,z,e2,R1,hf,fun F2 H2 w X2 R2 A2=>q F2 H2 w (X1.trans X2) R2 (A2.weak X1.dom)⟩
  | false=>cases hf;exact q F1 H1 _ X1 R1 dF
theorem zI{op}(h:PE X a (fE K fa)):PE X (.BoolOp op [a] pos) (fE K fa):=EJ h
def xP(t:FT)(f g:FE):FE:=fun e=>(t e).bind fun p=>if p.1=true then f p.2 else g p.2
theorem kY{c:MU}(hc:PT X c (fT K ft))(ha:PE X a (fE K fa))(hb:PE X b (fE K fb)):PE X (.IfExp c a b pos) (fE K (xP ft fa fb)):=(tL hc ha hb).mono fun σ H Q h=>by
  obtain⟨F,e,z,e2,R,hf,q⟩:=h
  unfold xP at hf
  obtain⟨⟨x,e1⟩,h1,hf⟩:=MJ hf
  refine⟨F,e,x,e1,R,h1,fun F1 H1 X1 R1=>?_⟩
  cases x with
  | true=>exact⟨F1,e1,z,e2,R1,hf,fun F2 H2 w X2 R2 A2=>q F2 H2 w (X1.trans X2) R2 (A2.weak X1.dom)⟩
  | false=>exact⟨F1,e1,z,e2,R1,hf,fun F2 H2 w X2 R2 A2=>q F2 H2 w (X1.trans X2) R2 (A2.weak X1.dom)⟩
def ah:FA:=fun e=>some ([],e)
def aa(fa:FE)(fs:FA):FA:=fun e=>(fa e).bind fun p=>(fs p.2).map fun q=>(p.1::q.1,q.2)
theorem ac:PA X [] (fA K ah):=fP.mono fun σ H Q h=>by
  obtain⟨F,e,r,e',R,hf,q⟩:=h
  cases hf
  exact q F H [] (cS.refl _ _ _ _) R rfl
theorem IP(ha:PE X a (fE K fa))(hr:PA X es (fA K fs))(h:Pc a=false):PA X (a::es) (fA K (aa fa fs)):=(tJ ha hr h).mono fun σ H Q h=>by
  obtain⟨F,e,z,e2,R,hf,q⟩:=h
  unfold aa at hf
  obtain⟨⟨x,e1⟩,h1,hf⟩:=MJ hf
  obtain⟨⟨xs,e2'⟩,h2,hf⟩:=ML hf
  cases hf
  refine⟨F,e,x,e1,R,h1,fun F1 H1 v X1 R1 A1=>⟨F1,e1,xs,_,R1,h2,fun F2 H2 vs X2 R2 A2=>?_⟩⟩
  exact q F2 H2 (v::vs) (X1.trans X2) R2 ⟨v,vs,rfl,A1.ext X2,A2.weak X1.dom⟩
def cu(fs:FA):FE:=fun e=>(fs e).bind fun p=>(gj p.1).bind fun ds=>if ds.length≤1000 then some (.d (.tuple ds),p.2) else none
def d_(fs:FA):FE:=fun e=>(fs e).bind fun p=>(gj p.1).bind fun ds=>if ds.length≤1000 then some (.l ds,p.2) else none
theorem br{x1}(h:PA X es (fA K fs)):PE X (.Tuple es x1 pos) (fE K (cu fs)):=(zm h).mono fun σ H Q h=>by
  obtain⟨F,e,z,e2,R,hf,q⟩:=h
  unfold cu at hf
  obtain⟨⟨rs,e1⟩,h1,hf⟩:=MJ hf
  obtain⟨ds,h2,hf⟩:=MJ hf
  split at hf
  case isFalse=>cases hf
  case isTrue hl=>
  cases hf
  refine⟨F,e,rs,_,R,h1,fun F1 H1 vs X1 R1 A1=>?_⟩
  obtain⟨F2,R2,s2,d2,f2⟩:=dr.frozen R1 A1 h2
  have hlen:=d2.len
  refine⟨Pi (qm (by lia)),fun p hp=>?_⟩
  obtain⟨R3,X3⟩:=R2.newT (vs:=vs) hp
  exact q _ _ _ ((X1.frz s2 f2).trans X3) R3 (c9.mpr ⟨p,vs,rfl,.inl (.inl aq),aN.mono X3.sf d2⟩)
theorem cz(h:PA X es (fA K fs)):PE X (.List es pos) (fE K (d_ fs)):=(rB h).mono fun σ H Q h=>by
  obtain⟨F,e,z,e2,R,hf,q⟩:=h
  unfold d_ at hf
  obtain⟨⟨rs,e1⟩,h1,hf⟩:=MJ hf
  obtain⟨ds,h2,hf⟩:=MJ hf
  split at hf
  case isFalse=>cases hf
  case isTrue hl=>
  cases hf
  refine⟨F,e,rs,_,R,h1,fun F1 H1 vs X1 R1 A1=>?_⟩
  obtain⟨F2,R2,s2,d2,f2⟩:=dr.frozen R1 A1 h2
  have hlen:=d2.len
  refine⟨Pi (qm (by lia)),fun p hp=>?_⟩
  obtain⟨R3,X3,hF,no⟩:=R2.newL (vs:=vs) hp
  exact q _ _ _ ((X1.frz s2 f2).trans X3) R3 ⟨p,vs,rfl,X1.dom p hp,hF,aq,d2,no⟩
def cJ(K:MS)(r:List V→Hp→VK→Prop)(g:En→List Rv→Option Rv):Prop:=
  ∀(σ:L2.St) (H0 F H:Hp) (e:En) (xs:List Rv) (z:Rv) (vs:List V) (Q:VK),aY K F H σ e→dr K σ H0 F H e xs vs→g e xs=some z→
    (∀F' H' w,cS σ F H e F' H' e→aY K F' H' σ e→bZ K σ H F' H' e z w→Q w H')→r vs H Q
def aB(g:En→List Rv→Option Rv)(fs:FA):FE:=fun e=>(fs e).bind fun p=>(g p.2 p.1).map fun z=>(z,p.2)
theorem ua{r:List V→Hp→VK→Prop}{g:En→List Rv→Option Rv}(ho:cJ K r g){σ:L2.St}{H:Hp}{Q:VK}(h:fE K (aB g fs) σ H Q):HR r (fA K fs) σ H Q:=by
  obtain⟨F,e,z,e2,R,hf,q⟩:=h
  unfold aB at hf
  obtain⟨⟨x,e1⟩,h1,hf⟩:=MJ hf
  obtain⟨z',h3,hf⟩:=ML hf
  cases hf
  refine⟨F,e,x,_,R,h1,fun F1 H1 vs X1 R1 A1=>?_⟩
  refine ho σ H F1 H1 _ x _ vs Q R1 A1 h3 fun F3 H3 w X3 R3 A3=>?_
  exact q F3 H3 w (X1.trans X3) R3 (A3.weak X1.dom)
theorem zH{x:Str}{p pos:Pos}{id:String}{r:List V→Hp→VK→Prop}{g:En→List Rv→Option Rv}(hc:cM X (.builtin id) r)(ho:cJ K r g)(hg:Gl X x)(hm:X.mg x=none)(hv:OA x=some (.builtin id))(ha:PA X (a::es) (fA K fs))(hn:x≠"__name__")(hdb:(x==("__debug__":Str))=false)
    (he:Nf (a::es) X.env=(false,Nh a X.env)::Nf es X.env)(hpl:(Nr pos (Nf es X.env)).any (·.1)=false):PE X (.Call (.Name x p) (a::es) [] pos) (fE K (aB g fs)):=(ou hc hg hm hv ha hn hdb he hpl).mono fun _ _ _ h=>ua ho h
theorem xB{x:Str}{p pos:Pos}{T:String}{r:List V→Hp→VK→Prop}{g:En→List Rv→Option Rv}(hc:cM X (.type T) r)(ho:cJ K r g)(hg:Gl X x)(hm:X.mg x=none)(hv:OA x=some (.type T))(ha:PA X (a::es) (fA K fs))(hn:x≠"__name__")(hdb:(x==("__debug__":Str))=false)
    (he:Nf (a::es) X.env=(false,Nh a X.env)::Nf es X.env)(hpl:(Nr pos (Nf es X.env)).any (·.1)=false):PE X (.Call (.Name x p) (a::es) [] pos) (fE K (aB g fs)):=(qe hc hg hm hv ha hn hdb he hpl).mono fun _ _ _ h=>ua ho h
end
mutual
theorem DA.reads{X:Cx}{pins:List (xM × Obj)}{σ:L2.St}{H:Hp}{s:MP}(I:aC X pins σ H s):∀{d:MT} {v:V} {u:Kg},d.canLay0=true→DA X.K H d v→bF v u→∃as,Reads s.heap u d as
  | .none,_,_,_,q,r=>by
    simp only [DA] at q;subst q;cases r;exact⟨_,.none⟩
  | .bool b,_,_,_,q,r=>by
    simp only [DA] at q;subst q;cases r;exact⟨_,.bool b⟩
  | .int i,_,_,_,q,r=>by
    simp only [DA] at q;subst q;obtain⟨t,rfl⟩:=r;exact⟨_,.int i t⟩
  | .str x,_,_,_,q,r=>by
    simp only [DA] at q;subst q;obtain⟨t,rfl⟩:=r;exact⟨_,.str x t⟩
  | .tuple ds,_,_,c,q,r=>by
    simp only [DA] at q
    obtain⟨a,xs,e,hs,rr⟩:=q
    subst e;cases r
    obtain⟨its,rv,⟨o,ho,hc,n,hd⟩,hz⟩:=I.tuple hs
    obtain⟨as,q⟩:=aN.reads I (by simpa [NR] using c) rr rv
    exact⟨_,.tuple ho hc hd q⟩
  | .list ds,_,_,c,q,r=>by
    simp only [DA] at q
    obtain⟨a,xs,e,hs,rr⟩:=q
    subst e;cases r
    obtain⟨its,rv,ht,hz⟩:=I.list hs
    obtain⟨o,ho,hc,n,hd⟩:=ht.isList
    obtain⟨as,q⟩:=aN.reads I (by simpa [NR] using c) rr rv
    exact⟨_,.list ho hc hd q⟩
  | .dict _,_,_,c,_,_=>by simp [NR] at c
theorem aN.reads{X:Cx}{pins:List (xM × Obj)}{σ:L2.St}{H:Hp}{s:MP}(I:aC X pins σ H s):∀{ds:List MT} {xs:List V} {us:List Kg},Ox ds=true→aN X.K H ds xs→aP xs us→∃as,ReadsAll s.heap us ds as
  | [],_,_,_,q,r=>by
    simp only [aN] at q;subst q;cases r;exact⟨_,.nil⟩
  | d::ds,_,_,c,q,r=>by
    simp only [aN] at q
    simp only [Ox,NX] at c
    obtain⟨x,rr,e,a,b⟩:=q
    subst e
    cases r with
    | cons p p'=>
      obtain⟨as,q1⟩:=DA.reads I c.1 a p
      obtain⟨bs,q2⟩:=aN.reads I c.2 b p'
      exact⟨_,.cons q1 q2⟩
end
def gN(e:En):Rv→Option MT
  | .d x=>some x
  | .l xs=>some (.list xs)
  | .s i=>match e[i]? with
    | some (some (.l xs))=>some (.list xs)
    | _=>none
theorem jb{K:MS}{σ:L2.St}{H0 F H:Hp}{e:En}{r:Rv}{v:V}{d:MT}(R:aY K F H σ e)(h:bZ K σ H0 F H e r v)(q:gN e r=some d):DA K H d v:=by
  cases r with
  | d x=>cases q;exact DA.mono R.sm h
  | l xs=>
    cases q
    obtain⟨l,vs,rfl,h1,h2,h3,h4,_⟩:=h
    exact eI.mpr ⟨l,vs,rfl,.inl (.inl h3),aN.mono R.sm h4⟩
  | s i=>
    obtain⟨h1,ys,h2⟩:=h
    simp only [gN,h2] at q
    cases q
    obtain⟨l,vs,e1,e2,e3,e4⟩:=R.own i _ h2
    rw [h1] at e1;cases e1
    exact eI.mpr ⟨l,vs,rfl,.inl (.inl e3),aN.mono R.sm e4⟩
section
variable{X:Cx}{K:MS}
def cq:Rv→Option Int
  | .d (.int i)=>some i
  | _=>none
theorem cy{σ:L2.St}{H0 F H:Hp}{e:En}{r:Rv}{v:V}{i:Int}(h:bZ K σ H0 F H e r v)(q:cq r=some i):v=.int i:=by
  unfold cq at q
  split at q
  · cases q;exact bO.mp (show DA K F (.int _) v from h)
  · cases q
theorem oH{σ:L2.St}{H0 F H:Hp}{e:En}{i:Int}:bZ K σ H0 F H e (.d (.int i)) (.int i):=(bO (K:=K) (F:=F)).mpr rfl
def gI(C:Int→Int→Bool)(f:Int→Int→MT):En→Rv→Rv→Option Rv:=fun _ x y=>(cq x).bind fun i=>(cq y).bind fun j=>if C i j=true then some (.d (f i j)) else none
theorem tI{C:Int→Int→Prop}{c:Int→Int→Bool}{g:Int→Int→V}{f:Int→Int→MT}(hc:∀i j,c i j=true→C i j)(hf:∀F i j,DA K F (f i j) (g i j)):f_ K (rI C g) (gI c f):=by
  intro σ H0 F H e x y z v u Q R A B hg q
  unfold gI at hg
  obtain⟨i,h1,hg⟩:=MJ hg
  obtain⟨j,h2,hg⟩:=MJ hg
  split at hg
  case isFalse=>cases hg
  case isTrue hh=>
  cases hg
  exact⟨i,j,cy A h1,cy B h2,hc i j hh,q F H _ (cS.refl _ _ _ _) R (hf F i j)⟩
theorem j8{g:Int→Int→V}{f:Int→Int→MT}(hf:∀F i j,DA K F (f i j) (g i j)):f_ K (xD g) (gI (fun _ _=>true) f):=by
  intro σ H0 F H e x y z v u Q R A B hg q
  obtain⟨i,j,h1,h2,h3,h4⟩:=tI (K:=K) (C:=fun _ _=>True) (c:=fun _ _=>true) (g:=g) (f:=f) (fun _ _ _=>trivial) hf σ H0 F H e x y z v u Q R A B hg q
  exact⟨i,j,h1,h2,h4⟩
def Aw(g g':En→Rv→Rv→Option Rv):En→Rv→Rv→Option Rv:=fun e x y=>(g e x y).or (g' e x y)
theorem f_.or{r r':R2}{g g':En→Rv→Rv→Option Rv}(h:f_ K r g)(h':f_ K r' g'):f_ K (fun x y H Q=>r x y H Q∨r' x y H Q) (Aw g g'):=by
  intro σ H0 F H e x y z v u Q R A B hg q
  unfold Aw at hg
  cases e1:g e x y with
  | some w=>
    rw [e1] at hg
    cases hg
    exact .inl (h σ H0 F H e x y _ v u Q R A B e1 q)
  | none=>
    rw [e1] at hg
    exact .inr (h' σ H0 F H e x y _ v u Q R A B hg q)
def vF:=gI (fun _ _=>true) fun i j=>.int (i+j)
def lF:=gI (fun _ _=>true) fun i j=>.int (i - j)
def iR(i:Int):Bool:=decide (-(2 ^ 64) < i)&&decide (i < 2 ^ 64)
def F9(n:Nat)(i:Int):Bool:=decide (i.natAbs < 2 ^ n)
theorem kl{n:Nat}{i:Int}:F9 n i=true↔ Bt n i:=by unfold F9 Bt;exact decide_eq_true_iff
def lK(i j:Int):Bool:=iR i || iR j || (F9 4000 i&&F9 4000 j)
def yp:=gI lK fun i j=>.int (i*j)
def fx:=gI (fun _ j=>j != 0&&F9 8000 j) fun i j=>.int (i.fdiv j)
def bu:=gI (fun _ j=>j != 0) fun i j=>.int (i.fmod j)
def zt(i j:Int):Bool:=decide (0≤j)&&decide (j≤1000000)&&iR i
def uB:=gI zt fun i j=>.int (i ^ j.toNat)
theorem kc{i:Int}(h:iR i=true): -(2 ^ 64) < i∧i < 2 ^ 64:=by
  unfold iR at h
  rw [NX,decide_eq_true_iff,decide_eq_true_iff] at h
  exact h
theorem BS{i j:Int}(h:zt i j=true):Dd i j:=by
  unfold zt at h
  rw [NX,NX,decide_eq_true_iff,decide_eq_true_iff] at h
  have:=kc h.2
  exact⟨h.1.1,h.1.2,by lia⟩
def vm(i j:Int):Prop:=AC i j∨Cr i j
theorem BD:gf X (NM .Mult) (rI vm fun i j=>.int (i*j)):=by
  intro pins s σ H x y v u Q I rx ry h
  obtain⟨i,j,e1,e2,h1,q⟩:=h
  rcases h1 with h1 | h1
  · exact Ez pins s σ H x y v u Q I rx ry ⟨i,j,e1,e2,h1,q⟩
  · exact BE pins s σ H x y v u Q I rx ry ⟨i,j,e1,e2,h1,q⟩
theorem Bq{i j:Int}(h:lK i j=true):vm i j:=by
  unfold lK at h
  rw [Bool.or_eq_true,Bool.or_eq_true,NX] at h
  rcases h with (h | h) | h
  · exact .inl (.inl (kc h))
  · exact .inl (.inr (kc h))
  · exact .inr ⟨kl.mp h.1,kl.mp h.2⟩
theorem Ee:f_ K (rI vm fun i j=>.int (i*j)) yp:=tI (fun _ _ h=>Bq h) fun _ _ _=>bO.mpr rfl
theorem He:f_ K (xD fun i j=>.int (i - j)) lF:=j8 fun _ _ _=>bO.mpr rfl
theorem Dx:f_ K (rI Cq fun i j=>.int (i.fdiv j)) fx:=tI (fun i j h=>by
  rw [NX] at h
  exact⟨by simpa using h.1,kl.mp h.2⟩) fun _ _ _=>bO.mpr rfl
theorem GH:f_ K (rI (fun _ j=>j≠0) fun i j=>.int (i.fmod j)) bu:=tI (fun i j h=>by simpa using h) fun _ _ _=>bO.mpr rfl
theorem GS:f_ K (rI Dd fun i j=>.int (i ^ j.toNat)) uB:=tI (fun _ _ h=>BS h) fun _ _ _=>bO.mpr rfl
def nK:En→Rv→Rv→Option Rv:=fun e x y=>match eH e x,eH e y with
  | some (false,xs),some (false,ys)=>if xs.length+ys.length≤1000000 then some (.d (.tuple (xs++ys))) else none
  | _,_=>none
theorem Dr:f_ K (zL K) nK:=by
  intro σ H0 F H e x y z v u Q R A B hg q
  unfold nK at hg
  match h1:eH e x,h2:eH e y,hg with
  | some (false,xs),some (false,ys),hg=>
    obtain⟨p,vs,rfl,d1,s1⟩:=cI R A h1
    obtain⟨p',us,rfl,d2,s2⟩:=cI R B h2
    dsimp only at hg
    split at hg
    case isFalse=>cases hg
    case isTrue hl=>
    cases hg
    have l1:=d1.len
    have l2:=d2.len
    have sl:Nl=16777216:=NU
    refine⟨p,p',vs,us,rfl,rfl,s1,s2,by lia,fun t H' sm hT=>?_⟩
    obtain⟨F',R',X',hF⟩:=R.growT sm hT
    exact q F' H' _ X' R' (c9.mpr ⟨t,_,rfl,hF,(d1.append d2).mono X'.sf⟩)
def yL(e:En):Rv→Option (List MT)
  | .l xs=>some xs
  | .s i=>match e[i]? with
    | some (some (.l xs))=>some xs
    | _=>none
  | _=>none
theorem rf{σ:L2.St}{H0 F H:Hp}{e:En}{r:Rv}{v:V}(R:aY K F H σ e)(h:bZ K σ H0 F H e r v){xs:List MT}(q:yL e r=some xs):∃p vs,v=.ref p∧F p=none∧H p=some (.lst vs)∧aN K F xs vs:=by
  cases r with
  | d x=>cases q
  | l ys=>
    cases q
    obtain⟨l,vs,e1,h1,h2,h3,h4,_⟩:=h
    exact⟨l,vs,e1,h2,h3,h4⟩
  | s i=>
    obtain⟨h1,ys,h2⟩:=h
    simp only [yL,h2] at q
    cases q
    obtain⟨l,vs,e1,e2,e3,e4⟩:=R.own i _ h2
    rw [h1] at e1;cases e1
    exact⟨l,vs,rfl,e2,e3,e4⟩
def vG:En→Rv→Rv→Option Rv:=fun e x y=>(yL e x).bind fun xs=>(yL e y).bind fun ys=>if xs.length+ys.length≤1000000 then some (.l (xs++ys)) else none
theorem Dq:f_ K E3 vG:=by
  intro σ H0 F H e x y z v u Q R A B hg q
  unfold vG at hg
  obtain⟨xs,h1,hg⟩:=MJ hg
  obtain⟨ys,h2,hg⟩:=MJ hg
  split at hg
  case isFalse=>cases hg
  case isTrue hl=>
  cases hg
  obtain⟨p,vs,rfl,f1,s1,d1⟩:=rf R A h1
  obtain⟨p',us,rfl,f2,s2,d2⟩:=rf R B h2
  have l1:=d1.len
  have l2:=d2.len
  have sl:Nl=16777216:=NU
  refine⟨p,p',vs,us,rfl,rfl,s1,s2,by lia,fun t ht=>?_⟩
  obtain⟨R3,X3,hF,no⟩:=R.newL (vs:=vs++us) ht
  exact q _ _ _ X3 R3 ⟨t,_,rfl,ht,hF,aq,d1.append d2,no⟩
def cx:En→Rv→Rv→Option Rv:=Aw vF (Aw nK vG)
def C4(K:MS):R2:=fun x y H Q=>xD (fun i j=>.int (i+j)) x y H Q∨(zL K x y H Q∨E3 x y H Q)
theorem vP:gf X (NM .Add) (C4 X.K):=Er.or (Bz.or Es)
theorem Cy:f_ K (C4 K) cx:=f_.or (j8 fun _ _ _=>bO.mpr rfl) (f_.or Dr Dq)
def yr:En→Rv→Rv→Option Rv:=fun e x y=>match eH e x,cq y with
  | some (false,[d]),some k=>if 0≤k∧k≤100000 then some (.d (.tuple (Nk k.toNat d))) else none
  | _,_=>none
theorem aN.rep{F:Hp}{d:MT}{v:V}(h:DA K F d v):∀n,aN K F (Nk n d) (Nk n v)
  | 0=>aN.nil
  | n+1=>aN.cons h (aN.rep h n)
theorem Fb:f_ K (zP K) yr:=by
  intro σ H0 F H e x y z v u Q R A B hg q
  unfold yr at hg
  match h1:eH e x,h2:cq y,hg with
  | some (false,[d]),some k,hg=>
    obtain⟨p,vs,rfl,d1,s1⟩:=cI R A h1
    dsimp only at hg
    split at hg
    case isFalse=>cases hg
    case isTrue hl=>
    cases hg
    have hd:=d1
    simp only [aN] at hd
    obtain⟨w,r,e1,hw,e2⟩:=hd
    subst e2 e1
    refine⟨p,k,w,rfl,cy B h2,s1,hl.1,hl.2,fun t H' sm hT=>?_⟩
    obtain⟨F',R',X',hF⟩:=R.growT sm hT
    exact q F' H' _ X' R' (c9.mpr ⟨t,_,rfl,hF,(aN.rep hw _).mono X'.sf⟩)
def yq:En→Rv→Rv→Option Rv:=fun e x y=>(yL e x).bind fun xs=>(cq y).bind fun k=>if -100000≤k∧k≤100000∧xs.length*k.toNat≤1000000 then some (.l (Nk k.toNat xs).flatten) else none
theorem aN.reps{F:Hp}{ds:List MT}{vs:List V}(h:aN K F ds vs):∀n,aN K F (Nk n ds).flatten (Nk n vs).flatten
  | 0=>aN.nil
  | n+1=>by simpa [Pa] using aN.append h (aN.reps h n)
theorem E_:f_ K E8 yq:=by
  intro σ H0 F H e x y z v u Q R A B hg q
  unfold yq at hg
  obtain⟨xs,h1,hg⟩:=MJ hg
  obtain⟨k,h2,hg⟩:=MJ hg
  split at hg
  case isFalse=>cases hg
  case isTrue hl=>
  cases hg
  obtain⟨p,vs,rfl,f1,s1,d1⟩:=rf R A h1
  have l1:=d1.len
  have sl:Nl=16777216:=NU
  refine⟨p,k,vs,rfl,cy B h2,s1,by lia,by lia,by rw [←l1];lia,fun t ht=>?_⟩
  obtain⟨R3,X3,hF,no⟩:=R.newL (vs:=(Nk k.toNat vs).flatten) ht
  exact q _ _ _ X3 R3 ⟨t,_,rfl,ht,hF,aq,aN.reps d1 _,no⟩
def nP:En→Rv→Rv→Option Rv:=Aw yp (Aw yr yq)
def C7(K:MS):R2:=fun x y H Q=>rI vm (fun i j=>.int (i*j)) x y H Q∨(zP K x y H Q∨E8 x y H Q)
theorem BC:gf X (NM .Mult) (C7 X.K):=BD.or (BG.or EC)
theorem GI:f_ K (C7 K) nP:=f_.or Ee (f_.or Fb E_)
def CM:=gI (fun _ _=>true) fun i j=>.bool (decide (i < j))
def JX:=gI (fun _ _=>true) fun i j=>.bool (decide (i≤j))
def CK:=gI (fun _ _=>true) fun i j=>.bool (decide (j < i))
def CJ:=gI (fun _ _=>true) fun i j=>.bool (decide (j≤i))
theorem IM:f_ K (xD fun i j=>.bl (decide (i < j))) CM:=j8 fun _ _ _=>cT.mpr rfl
theorem IC:f_ K (xD fun i j=>.bl (decide (j < i))) CK:=j8 fun _ _ _=>cT.mpr rfl
theorem IB:f_ K (xD fun i j=>.bl (decide (j≤i))) CJ:=j8 fun _ _ _=>cT.mpr rfl
def E6(K:MS)(neg:Bool):R2:=fun x y H Q=>∃a b,DA K H a x∧DA K H b y∧NI a=true∧NI b=true∧Q (.bl (if neg then !PyData.eqv a b else Oy a b)) H
theorem Et{k:Nat}(hr:bI k X.A):gf X (NO .Eq) (E6 X.K false):=by
  intro pins s σ H x y v u Q I rx ry h
  obtain⟨a,b,ha,hb,s1,s2,q⟩:=h
  obtain⟨as,ra⟩:=DA.reads I (Qw s1) ha rx
  obtain⟨bs,rb⟩:=DA.reads I (Qw s2) hb ry
  exact SeqAt.compareEq_shaped ra rb s1 s2 hr.units ⟨.bl _,H,I,rfl,q⟩
theorem EA{k:Nat}(hr:bI k X.A):gf X (NO .NotEq) (E6 X.K true):=by
  intro pins s σ H x y v u Q I rx ry h
  obtain⟨a,b,ha,hb,s1,s2,q⟩:=h
  obtain⟨as,ra⟩:=DA.reads I (Qw s1) ha rx
  obtain⟨bs,rb⟩:=DA.reads I (Qw s2) hb ry
  exact SeqAt.compareNe_shaped ra rb s1 s2 hr.units ⟨.bl _,H,I,rfl,q⟩
def bj(neg:Bool):En→Rv→Rv→Option Rv:=fun e x y=>(gN e x).bind fun a=>(gN e y).bind fun b=>if (NI a&&NI b)=true then some (.d (.bool (if neg then !PyData.eqv a b else Oy a b))) else none
theorem CG{neg:Bool}:f_ K (E6 K neg) (bj neg):=by
  intro σ H0 F H e x y z v u Q R A B hg q
  unfold bj at hg
  obtain⟨a,h1,hg⟩:=MJ hg
  obtain⟨b,h2,hg⟩:=MJ hg
  split at hg
  case isFalse=>cases hg
  case isTrue hl=>
  cases hg
  rw [NX] at hl
  exact⟨a,b,jb R A h1,jb R B h2,hl.1,hl.2,q F H _ (cS.refl _ _ _ _) R dF⟩
def E7(K:MS)(neg:Bool):R2:=fun x y H Q=>∃a xs,DA K H a x∧(DA K H (.list xs) y∨DA K H (.tuple xs) y)∧a.canLay0=true∧a.depth≤60∧Ox xs=true∧Q (.bl (if neg then !(xs.any fun y=>Oy y a) else xs.any fun y=>Oy y a)) H
theorem Eu{k:Nat}(hr:bI k X.A):gf X (NO .In) (E7 X.K false):=by
  intro pins s σ H x y v u Q I rx ry h
  obtain⟨a,xs,ha,hb,s1,s2,s3,q⟩:=h
  obtain⟨as,ra⟩:=DA.reads I s1 ha rx
  have hu:=hr.units
  rcases hb with hb | hb
  · obtain⟨bs,rb⟩:=DA.reads I (by simpa [NR] using s3) hb ry
    exact PySem.SeqAt.in_list_reads rb ra s3 s1 (by lia) ⟨.bl _,H,I,rfl,q⟩
  · obtain⟨bs,rb⟩:=DA.reads I (by simpa [NR] using s3) hb ry
    exact PySem.SeqAt.in_tuple_reads rb ra s3 s1 (by lia) ⟨.bl _,H,I,rfl,q⟩
theorem xw{k:Nat}(hr:bI k X.A):gf X (NO .NotIn) (E7 X.K true):=by
  intro pins s σ H x y v u Q I rx ry h
  obtain⟨a,xs,ha,hb,s1,s2,s3,q⟩:=h
  obtain⟨as,ra⟩:=DA.reads I s1 ha rx
  have hu:=hr.units
  rcases hb with hb | hb
  · obtain⟨bs,rb⟩:=DA.reads I (by simpa [NR] using s3) hb ry
    exact PySem.SeqAt.notIn_list_reads rb ra s3 s1 (by lia) ⟨.bl _,H,I,rfl,q⟩
  · obtain⟨bs,rb⟩:=DA.reads I (by simpa [NR] using s3) hb ry
    exact PySem.SeqAt.notIn_tuple_reads rb ra s3 s1 (by lia) ⟨.bl _,H,I,rfl,q⟩
def uj(neg:Bool):En→Rv→Rv→Option Rv:=fun e x y=>(gN e x).bind fun a=>(eH e y).bind fun p=>if (a.canLay0&&decide (a.depth≤60)&&Ox p.2)=true then some (.d (.bool (if neg then !(p.2.any fun y=>Oy y a) else p.2.any fun y=>Oy y a))) else none
theorem Gg{neg:Bool}:f_ K (E7 K neg) (uj neg):=by
  intro σ H0 F H e x y z v u Q R A B hg q
  unfold uj at hg
  obtain⟨a,h1,hg⟩:=MJ hg
  obtain⟨⟨b,xs⟩,h2,hg⟩:=MJ hg
  split at hg
  case isFalse=>cases hg
  case isTrue hl=>
  cases hg
  rw [NX,NX,decide_eq_true_iff] at hl
  obtain⟨p,vs,rfl,d1,s1⟩:=cI R B h2
  refine⟨a,xs,jb R A h1,?_,hl.1.1,hl.1.2,hl.2,q F H _ (cS.refl _ _ _ _) R dF⟩
  cases b with
  | true=>exact .inl (eI.mpr ⟨p,vs,rfl,s1,d1.mono R.sm⟩)
  | false=>exact .inr (c9.mpr ⟨p,vs,rfl,s1,d1.mono R.sm⟩)
def qY:MT→Bool
  | .none=>true
  | _=>false
theorem pT{F:Hp}{d:MT}{v:V}(h:DA K F d v):decide (v=.non)=qY d:=by
  cases d with
  | none=>rw [ee.mp h];rfl
  | bool b=>rw [cT.mp h];rfl
  | int b=>rw [bO.mp h];rfl
  | str b=>rw [ik.mp h];rfl
  | tuple b=>obtain⟨a,_,e,_⟩:=c9.mp h;rw [e];rfl
  | list b=>obtain⟨a,_,e,_⟩:=eI.mp h;rw [e];rfl
  | dict b=>simp only [DA] at h;obtain⟨a,m,rfl,_⟩:=h;rfl
def w_(neg:Bool):En→Rv→Rv→Option Rv:=fun e x y=>(gN e x).bind fun a=>match y with
  | .d .none=>some (.d (.bool (if neg then !qY a else qY a)))
  | _=>none
def wZ(neg:Bool):En→Rv→Rv→Option Rv:=fun e x y=>(cZ x).bind fun a=>(cZ y).bind fun b=>some (.d (.bool (if neg then !(a==b) else a==b)))
theorem Gj:f_ K (fun x y H Q=>y=.non∧Q (.bl (decide (x=.non))) H) (w_ false):=by
  intro σ H0 F H e x y z v u Q R A B hg q
  unfold w_ at hg
  obtain⟨a,h1,hg⟩:=MJ hg
  split at hg
  · cases hg
    refine⟨ee.mp (show DA K F .none u from B),?_⟩
    rw [pT (jb R A h1)]
    exact q F H _ (cS.refl _ _ _ _) R dF
  · cases hg
theorem Ei:f_ K (fun x y H Q=>y=.non∧Q (.bl (!decide (x=.non))) H) (w_ true):=by
  intro σ H0 F H e x y z v u Q R A B hg q
  unfold w_ at hg
  obtain⟨a,h1,hg⟩:=MJ hg
  split at hg
  · cases hg
    refine⟨ee.mp (show DA K F .none u from B),?_⟩
    rw [pT (jb R A h1)]
    exact q F H _ (cS.refl _ _ _ _) R dF
  · cases hg
theorem Gi:f_ K (fun x y H Q=>∃b c,x=.bl b∧y=.bl c∧Q (.bl (b==c)) H) (wZ false):=by
  intro σ H0 F H e x y z v u Q R A B hg q
  unfold wZ at hg
  obtain⟨a,h1,hg⟩:=MJ hg
  obtain⟨b,h2,hg⟩:=MJ hg
  cases hg
  exact⟨a,b,eW A h1,eW B h2,q F H _ (cS.refl _ _ _ _) R dF⟩
theorem yB:f_ K (fun x y H Q=>∃b c,x=.bl b∧y=.bl c∧Q (.bl (!(b==c))) H) (wZ true):=by
  intro σ H0 F H e x y z v u Q R A B hg q
  unfold wZ at hg
  obtain⟨a,h1,hg⟩:=MJ hg
  obtain⟨b,h2,hg⟩:=MJ hg
  cases hg
  exact⟨a,b,eW A h1,eW B h2,q F H _ (cS.refl _ _ _ _) R dF⟩
def FK:En→Rv→Rv→Option Rv:=Aw (w_ false) (wZ false)
def j1:En→Rv→Rv→Option Rv:=Aw (w_ true) (wZ true)
def G1:R2:=fun x y H Q=>(y=.non∧Q (.bl (decide (x=.non))) H)∨∃b c,x=.bl b∧y=.bl c∧Q (.bl (b==c)) H
def wf:R2:=fun x y H Q=>(y=.non∧Q (.bl (!decide (x=.non))) H)∨∃b c,x=.bl b∧y=.bl c∧Q (.bl (!(b==c))) H
theorem Ew:gf X (NO .Is) G1:=Ey.or Ex
theorem xt:gf X (NO .IsNot) wf:=BF.or xu
theorem IG:f_ K G1 FK:=f_.or Gj Gi
theorem A7:f_ K wf j1:=f_.or Ei yB
def dM:En→Rv→Rv→Option Rv:=fun e x y=>(eH e x).bind fun p=>(cq y).bind fun i=>(atI p.2 i).map .d
def G2(K:MS):R2:=fun x y H Q=>G3 K x y H Q∨G4 K x y H Q
theorem Gu:AE X (G2 X.K):=vM.or DF
theorem aN.atI{F:Hp}{ds:List MT}{vs:List V}(h:aN K F ds vs){i:Int}{d:MT}(q:atI ds i=some d):∃v,L2.atI vs i=some v∧DA K F d v:=by
  unfold L2.atI at q ⊢
  obtain⟨j,h1,h2⟩:=MJ q
  obtain⟨v,h3,h4⟩:=h.get h2
  exact⟨v,by rw [←h.len,h1];exact h3,h4⟩
theorem Gw:f_ K (G2 K) dM:=by
  intro σ H0 F H e x y z v u Q R A B hg q
  unfold dM at hg
  obtain⟨⟨b,xs⟩,h1,hg⟩:=MJ hg
  obtain⟨i,h2,hg⟩:=MJ hg
  obtain⟨d,h3,hg⟩:=ML hg
  cases hg
  obtain⟨p,vs,rfl,d1,s1⟩:=cI R A h1
  obtain⟨w,h4,h5⟩:=d1.atI h3
  have fin:=q F H w (cS.refl _ _ _ _) R h5
  cases b with
  | true=>exact .inl ⟨p,vs,i,w,rfl,cy B h2,s1,h4,fin⟩
  | false=>exact .inr ⟨p,vs,i,w,rfl,cy B h2,s1,h4,fin⟩
end
end L2
namespace HT
open PySem PySem.Spec PyProof.Rows
section
variable{prog:MZ}{w:MV}{A:Nb}{E:Kg→MP→Prop}{s:MP}
theorem getItem_tuple_all{t sl:xM}{items:Array Kg}{vl vu:Kg}{lo hi:Option Int}{Q:Kg→MP→Prop}(ht:IsTup s.heap t items)(hs:s.heap.IsSliceOf sl vl vu .none)(pl:IsPart vl lo)(pu:IsPart vu hi)
    (hw:sIx items.size 0 lo=0∧sIx items.size items.size hi=items.size)
    (h:Q (.ref t) s):Nc (Ng prog w) A (getItem (.ref t) (.ref sl)) Q E s:=by
  obtain⟨os,hos,hcs,hds⟩:=id hs
  have hTs:s.TypeIs (.ref sl) "slice":=⟨os,hos,hcs⟩
  unfold getItem
  try with_reducible refine wpAny_holding ?_
  first | refine Ni (Nm ?_) | skip
  refine Ni (wpAny_sequenceKey ht.typeIs (by decide) ?_)
  refine Ni (wpAny_callSpecial?_slot (name:=MW "__getitem__") ht.typeIs Pn
    (wpAny_call_entry Pn ht.typeIs entry_tuple_getitem ?_ (args_tuple_getitem _ _)))
  show Nc _ _ (Rf (.ref t) >>= _) _ _ s
  refine Ni (tupleItemsOf_ ht ?_)
  refine Ni (wpAny_typeOf hTs ?_)
  rw [if_pos (by decide)]
  refine Ni (hR hs pl pu ?_)
  have hno:(((sIx items.size 0 lo:Nat):Int)==0&&(1:Int)==1&&(sIx items.size items.size hi - sIx items.size 0 lo)==items.size)=true:=by
    rw [hw.1,hw.2];simp
  show Nc _ _ (if (((sIx items.size 0 lo:Nat):Int)==0&&(1:Int)==1&&(sIx items.size items.size hi - sIx items.size 0 lo)==items.size)=true then _ else _) _ _ s
  rw [if_pos hno]
  unfold Builtin.Tuple.tupleIsExact
  refine Ni (Ni (wpAny_typeOf ht.typeIs (Nm ?_)))
  rw [if_pos (by decide)]
  exact Ni (wpAny_rule (Nm ⟨_,rfl,Nm h⟩))
end
end HT
namespace L2
open PySem PySem.Spec PyProof.Rows
section
variable{X:Cx}{K:MS}{a:MU}{fa:FE}{lo hi:Option MU}{pos p2:Pos}
def jY(xs:List MT)(lo hi:Option Int):List MT:=(xs.drop (HT.sIx xs.length 0 lo)).take (HT.sIx xs.length xs.length hi - HT.sIx xs.length 0 lo)
def G9(K:MS):V→Option Int→Option Int→Hp→VK→Prop:=fun x lo hi H Q=>∃a xs,x=.ref a∧dN K H a xs∧
  (HT.sIx xs.length 0 lo=0∧HT.sIx xs.length xs.length hi=xs.length)∧Q (.ref a) H
theorem B8:Ap X (G9 X.K):=by
  intro pins s σ H x v vl vu lo hi sl Q I rx hs pl pu h
  obtain⟨a,xs,rfl,hx,hw,q⟩:=h
  cases rx
  obtain⟨its,r,ht,hz⟩:=I.tuple hx
  have hlen:its.toArray.size=xs.length:=by rw [Nx];exact r.length.symm
  refine⟨"tuple",_,Pn.lookup,ht.typeIs,?_⟩
  exact HT.getItem_tuple_all ht hs pl pu (by rw [hlen];exact hw) ⟨.ref a,H,I,rfl,q⟩
def IQ(K:MS):V→Option Int→Option Int→Hp→VK→Prop:=fun x lo hi H Q=>G7 K x lo hi H Q∨(G9 K x lo hi H Q∨G6 K x lo hi H Q)
theorem Hc:Ap X (IQ X.K):=Fe.or (B8.or B7)
abbrev FO:=En→Option (Option Int × En)
def fO(K:MS)(f:FO):TO:=fun σ H Q=>∃F e o e',aY K F H σ e∧f e=some (o,e')∧∀F' H',cS σ F H e F' H' e'→aY K F' H' σ e'→Q o H'
theorem PO.mono{e:Option MU}{t t':TO}(h:PO X e t)(m:∀σ H Q,t' σ H Q→t σ H Q):PO X e t':=fun pins s σ H Q I q=>h pins s σ H Q I (m σ H Q q)
def gp:FO:=fun e=>some (none,e)
def fN(f:FE):FO:=fun e=>(f e).bind fun p=>(cq p.1).map fun i=>(some i,p.2)
theorem iJ:PO X none (fO K gp):=BP.mono fun σ H Q h=>by
  obtain⟨F,e,o,e',R,hf,q⟩:=h
  cases hf
  exact q F H (cS.refl _ _ _ _) R
theorem iK(h:PE X a (fE K fa)):PO X (some a) (fO K (fN fa)):=(BQ h).mono fun σ H Q h=>by
  obtain⟨F,e,o,e',R,hf,q⟩:=h
  unfold fN at hf
  obtain⟨⟨x,e1⟩,h1,hf⟩:=MJ hf
  obtain⟨i,h2,hf⟩:=ML hf
  cases hf
  exact⟨F,e,x,_,R,h1,fun F1 H1 v X1 R1 A1=>⟨i,cy A1 h2,q F1 H1 X1 R1⟩⟩
def Gc(e:En)(x:Rv)(lo hi:Option Int):Option Rv:=(eH e x).map fun p=>if p.1=true then .l (jY p.2 lo hi) else .d (.tuple (jY p.2 lo hi))
def wD(fa:FE)(fl fh:FO):FE:=fun e=>(fa e).bind fun p=>(fl p.2).bind fun l=>(fh l.2).bind fun h=>(Gc h.2 p.1 l.1 h.1).map fun z=>(z,h.2)
theorem qN{F:Hp}{ds:List MT}{vs:List V}(h:aN K F ds vs)(lo hi:Option Int):aN K F (jY ds lo hi) (mG vs lo hi):=by
  unfold jY mG
  rw [h.len]
  exact(h.drop _).take _
theorem vB{α:Type}{xs:List α}{lo hi:Option Int}(h:HT.sIx xs.length 0 lo=0∧HT.sIx xs.length xs.length hi=xs.length):(xs.drop (HT.sIx xs.length 0 lo)).take (HT.sIx xs.length xs.length hi - HT.sIx xs.length 0 lo)=xs:=by
  rw [h.1,h.2];simp
theorem zJ{fl fh:FO}(he:PE X a (fE X.K fa))(hl:PO X lo (fO X.K fl))(hh:PO X hi (fO X.K fh)):PE X (.Subscript a (.Slice lo hi none p2) pos) (fE X.K (wD fa fl fh)):=(ox Hc he hl hh).mono fun σ H Q h=>by
  obtain⟨F,e,z,e',R,hf,q⟩:=h
  unfold wD at hf
  obtain⟨⟨x,e1⟩,h1,hf⟩:=MJ hf
  obtain⟨⟨l,e2⟩,h2,hf⟩:=MJ hf
  obtain⟨⟨u,e3⟩,h3,hf⟩:=MJ hf
  obtain⟨z',h4,hf⟩:=ML hf
  cases hf
  refine⟨F,e,x,e1,R,h1,fun F1 H1 v X1 R1 A1=>⟨F1,e1,l,e2,R1,h2,fun F2 H2 X2 R2=>⟨F2,e2,u,_,R2,h3,fun F3 H3 X3 R3=>?_⟩⟩⟩
  have X12:=X1.trans X2
  have X13:=X12.trans X3
  have A3:=(A1.ext X2).ext X3
  unfold Gc at h4
  obtain⟨⟨b,xs⟩,h5,h4⟩:=ML h4
  obtain⟨p,vs,rfl,d1,s1⟩:=cI R3 A3 h5
  cases b with
  | true=>
    rw [if_pos rfl] at h4;cases h4
    refine .inr (.inr ⟨p,vs,rfl,s1,fun t ht=>?_⟩)
    obtain⟨R4,X4,hF,no⟩:=R3.newL (vs:=mG vs l u) ht
    exact q _ _ _ (X13.trans X4) R4 ⟨t,_,rfl,X13.dom _ ht,hF,aq,qN d1 l u,no⟩
  | false=>
    rw [if_neg (by simp)] at h4;cases h4
    by_cases hw:HT.sIx vs.length 0 l=0∧HT.sIx vs.length vs.length u=vs.length
    · refine .inr (.inl ⟨p,vs,rfl,s1,hw,?_⟩)
      have e5:jY xs l u=xs:=by unfold jY;exact vB (by rw [d1.len];exact hw)
      rw [e5] at q
      obtain⟨F4,R4,X4,hF⟩:=R3.growT (ao.refl _) s1
      exact q _ _ _ (X13.trans X4) R4 (c9.mpr ⟨p,vs,rfl,hF,d1.mono X4.sf⟩)
    · refine .inl ⟨p,vs,rfl,s1,hw,fun t ht=>?_⟩
      obtain⟨R4,X4⟩:=R3.newT (vs:=mG vs l u) ht
      exact q _ _ _ (X13.trans X4) R4 (c9.mpr ⟨t,_,rfl,.inl (.inl aq),(qN d1 l u).mono X4.sf⟩)
end
section
variable{X:Cx}{K:MS}
theorem rM{σ:L2.St}{H0 F H:Hp}{e:En}{x:Rv}{vs:List V}(h:dr K σ H0 F H e [x] vs):∃v,vs=[v]∧bZ K σ H0 F H e x v:=by
  obtain⟨v,ws,rfl,h1,h2⟩:=h
  have h2':ws=[]:=h2
  subst h2'
  exact⟨v,rfl,h1⟩
theorem wk{σ:L2.St}{H0 F H:Hp}{e:En}{x y:Rv}{vs:List V}(h:dr K σ H0 F H e [x,y] vs):∃v u,vs=[v,u]∧bZ K σ H0 F H e x v∧bZ K σ H0 F H e y u:=by
  obtain⟨v,ws,rfl,h1,h2⟩:=h
  obtain⟨u,rfl,h3⟩:=rM h2
  exact⟨v,u,rfl,h1,h3⟩
def g1(g:En→Rv→Option Rv):En→List Rv→Option Rv:=fun e xs=>match xs with
  | [x]=>g e x
  | _=>none
def g2(g:En→Rv→Rv→Option Rv):En→List Rv→Option Rv:=fun e xs=>match xs with
  | [x,y]=>g e x y
  | _=>none
theorem ed{r:List V→Hp→VK→Prop}{g:En→Rv→Option Rv}(h:FJ K (fun v H Q=>r [v] H Q) g):cJ K r (g1 g):=by
  intro σ H0 F H e xs z vs Q R A hg q
  unfold g1 at hg
  match xs,hg with
  | [x],hg=>
    obtain⟨v,rfl,h1⟩:=rM A
    exact h σ H0 F H e x z v Q R h1 hg q
theorem vz{r:List V→Hp→VK→Prop}{g:En→Rv→Rv→Option Rv}(h:f_ K (fun v u H Q=>r [v,u] H Q) g):cJ K r (g2 g):=by
  intro σ H0 F H e xs z vs Q R A hg q
  unfold g2 at hg
  match xs,hg with
  | [x,y],hg=>
    obtain⟨v,u,rfl,h1,h2⟩:=wk A
    exact h σ H0 F H e x y z v u Q R h1 h2 hg q
def gb:En→Rv→Option Rv:=fun e x=>(eH e x).map fun p=>.d (.int p.2.length)
theorem Gy:cJ K (fun xs H Q=>∃p ys,xs=[.ref p]∧(gF K H p ys∨dN K H p ys)∧Q (.int ys.length) H) (g1 gb):=ed fun σ H0 F H e x z v Q R A hg q=>by
  obtain⟨⟨b,xs⟩,h5,h4⟩:=ML hg
  obtain⟨p,vs,rfl,d1,s1⟩:=cI R A h5
  cases h4
  refine⟨p,vs,rfl,?_,?_⟩
  · cases b with
    | true=>exact .inl s1
    | false=>exact .inr s1
  · rw [←d1.len]
    exact q F H _ (cS.refl _ _ _ _) R oH
def wY:En→Rv→Option Rv:=fun _ x=>(cq x).map fun i=>.d (.int (if i < 0 then -i else i))
theorem FV:cJ K (fun xs H Q=>∃i,xs=[.int i]∧Q (.int (if i < 0 then -i else i)) H) (g1 wY):=ed fun σ H0 F H e x z v Q R A hg q=>by
  obtain⟨i,h5,h4⟩:=ML hg
  cases h4
  exact⟨i,by rw [cy A h5],q F H _ (cS.refl _ _ _ _) R oH⟩
def pz:En→Rv→Option Rv:=fun _ x=>match x with
  | .d (.int i)=>some (.d (.int i))
  | .d (.bool k)=>some (.d (.int (if k then 1 else 0)))
  | _=>none
theorem Gh:cJ K (fun xs H Q=>(∃i,xs=[.int i]∧Q (.int i) H)∨∃k,xs=[.bl k]∧Q (.int (if k then 1 else 0)) H) (g1 pz):=ed fun σ H0 F H e x z v Q R A hg q=>by
  unfold pz at hg
  split at hg
  · cases hg
    exact .inl ⟨_,by rw [bO.mp (show DA K F (.int _) v from A)],q F H _ (cS.refl _ _ _ _) R oH⟩
  · cases hg
    exact .inr ⟨_,by rw [cT.mp (show DA K F (.bool _) v from A)],q F H _ (cS.refl _ _ _ _) R oH⟩
  · cases hg
def yo:=gI (fun _ _=>true) fun i j=>.int (if j < i then j else i)
def xb:=gI (fun _ _=>true) fun i j=>.int (if j > i then j else i)
theorem GG:cJ K (fun xs H Q=>∃i j,xs=[.int i,.int j]∧Q (.int (if j < i then j else i)) H) (g2 yo):=vz fun σ H0 F H e x y z v u Q R A B hg q=>by
  obtain⟨i,j,h1,h2,h3⟩:=j8 (K:=K) (g:=fun i j=>.int (if j < i then j else i)) (fun _ _ _=>bO.mpr rfl) σ H0 F H e x y z v u Q R A B hg q
  exact⟨i,j,by rw [h1,h2],h3⟩
theorem GF:cJ K (fun xs H Q=>∃i j,xs=[.int i,.int j]∧Q (.int (if j > i then j else i)) H) (g2 xb):=vz fun σ H0 F H e x y z v u Q R A B hg q=>by
  obtain⟨i,j,h1,h2,h3⟩:=j8 (K:=K) (g:=fun i j=>.int (if j > i then j else i)) (fun _ _ _=>bO.mpr rfl) σ H0 F H e x y z v u Q R A B hg q
  exact⟨i,j,by rw [h1,h2],h3⟩
def dz:En→Rv→Option Rv:=fun e x=>(eH e x).map fun p=>.d (.tuple p.2)
theorem Cf:cJ K (fun xs H Q=>∃p ys,xs=[.ref p]∧((gF K H p ys∧∀l,H l=none→Q (.ref l) (bv H l (.tup ys)))∨(dN K H p ys∧Q (.ref p) H))) (g1 dz):=ed fun σ H0 F H e x z v Q R A hg q=>by
  obtain⟨⟨b,xs⟩,h5,h4⟩:=ML hg
  obtain⟨p,vs,rfl,d1,s1⟩:=cI R A h5
  cases h4
  refine⟨p,vs,rfl,?_⟩
  cases b with
  | true=>
    refine .inl ⟨s1,fun t ht=>?_⟩
    obtain⟨R4,X4⟩:=R.newT (vs:=vs) ht
    exact q _ _ _ X4 R4 (c9.mpr ⟨t,_,rfl,.inl (.inl aq),d1.mono X4.sf⟩)
  | false=>
    obtain⟨F4,R4,X4,hF⟩:=R.growT (ao.refl _) s1
    exact .inr ⟨s1,q _ _ _ X4 R4 (c9.mpr ⟨p,vs,rfl,hF,d1.mono X4.sf⟩)⟩
def CL:En→Rv→Option Rv:=fun e x=>(eH e x).map fun p=>.l p.2
theorem D_:cJ K (fun xs H Q=>∃p ys,xs=[.ref p]∧(gF K H p ys∨dN K H p ys)∧∀l,H l=none→Q (.ref l) (bv H l (.lst ys))) (g1 CL):=ed fun σ H0 F H e x z v Q R A hg q=>by
  obtain⟨⟨b,xs⟩,h5,h4⟩:=ML hg
  obtain⟨p,vs,rfl,d1,s1⟩:=cI R A h5
  cases h4
  refine⟨p,vs,rfl,?_,fun t ht=>?_⟩
  · cases b with
    | true=>exact .inl s1
    | false=>exact .inr s1
  · obtain⟨R4,X4,hF,no⟩:=R.newL (vs:=vs) ht
    exact q _ _ _ X4 R4 ⟨t,_,rfl,ht,hF,aq,d1,no⟩
def p4:List MT→Option (List Int)
  | []=>some []
  | .int i::r=>(p4 r).map (i::·)
  | _=>none
theorem nZ:∀{ds:List MT} {ns:List Int},p4 ds=some ns→ds=ns.map .int
  | [],_,h=>by cases h;rfl
  | .int i::r,_,h=>by
    obtain⟨ns,h1,rfl⟩:=ML h
    rw [nZ h1];rfl
theorem p5:∀(ns:List Int),p4 (ns.map .int)=some ns
  | []=>rfl
  | i::r=>by simp [p4,p5 r]
def qG:List MT→Option (List Bool)
  | []=>some []
  | .bool i::r=>(qG r).map (i::·)
  | _=>none
theorem pR:∀{ds:List MT} {ns:List Bool},qG ds=some ns→ds=ns.map .bool
  | [],_,h=>by cases h;rfl
  | .bool i::r,_,h=>by
    obtain⟨ns,h1,rfl⟩:=ML h
    rw [pR h1];rfl
def jf(g:List MT→Option MT):En→Rv→Option Rv:=fun e x=>match eH e x with
  | some (true,xs)=>(g xs).map .d
  | _=>none
theorem z9{r:List V→Hp→VK→Prop}{g:List MT→Option MT}(h:∀(F H:Hp) (p:xM) (xs:List MT) (vs:List V) (d:MT) (Q:VK),aN K F xs vs→gF K H p vs→g xs=some d→(∀v,(∀F,DA K F d v)→Q v H)→r [.ref p] H Q):cJ K r (g1 (jf g)):=ed fun σ H0 F H e x z v Q R A hg q=>by
  unfold jf at hg
  split at hg
  case h_2=>cases hg
  case h_1 xs h5=>
  obtain⟨p,vs,rfl,d1,s1⟩:=cI R A h5
  obtain⟨d,h6,hg⟩:=ML hg
  cases hg
  exact h F H p xs vs d Q d1 s1 h6 fun v hv=>q F H v (cS.refl _ _ _ _) R (hv F)
def vI:List MT→Option MT:=fun xs=>(p4 xs).map fun ns=>.int ns.sum
theorem Hf:cJ K (fun xs H Q=>∃(l:xM) (ns:List Int),xs=[.ref l]∧gF K H l (ns.map V.int)∧Q (.int ns.sum) H) (g1 (jf vI)):=z9 fun F H p xs vs d Q d1 s1 hg q=>by
  obtain⟨ns,h1,h2⟩:=ML hg
  cases h2
  rw [nZ h1] at d1
  rw [aN.ints.mp d1] at s1
  exact⟨p,ns,rfl,s1,q _ fun _=>bO.mpr rfl⟩
def sJ:List MT→Option MT:=fun xs=>(qG xs).map fun ns=>.bool (ns.all id)
theorem FW:cJ K (fun xs H Q=>∃(l:xM) (bs:List Bool),xs=[.ref l]∧gF K H l (bs.map V.bl)∧Q (.bl (bs.all id)) H) (g1 (jf sJ)):=z9 fun F H p xs vs d Q d1 s1 hg q=>by
  obtain⟨ns,h1,h2⟩:=ML hg
  cases h2
  rw [pR h1] at d1
  rw [aN.bools.mp d1] at s1
  exact⟨p,ns,rfl,s1,q _ fun _=>cT.mpr rfl⟩
def dW:En→Rv→Option Rv:=fun e x=>match eH e x with
  | some (false,xs)=>(p4 xs).bind fun ns=>if ns.length < 64 then some (.l ((hU ns).map .int)) else none
  | _=>none
def zQ(K:MS):List V→Hp→VK→Prop:=fun xs H Q=>∃(a:xM) (ns:List Int),xs=[.ref a]∧dN K H a (ns.map V.int)∧ns.length < 64∧∀(l:xM) (H':Hp),ao H H'→H l=none→H' l=some (.lst ((hU ns).map V.int))→Q (.ref l) H'
theorem uw:cM X (.builtin "sorted") (zQ X.K):=by
  intro pins s σ H xs us Q I rv h
  obtain⟨a,ns,e1,e2,e3,q⟩:=h
  exact se pins s σ H xs us Q I rv ⟨a,ns,e1,e2,e3,fun l ns' H' sm hn hl hp hs=>q l H' sm hn (by rw [←Ab hp hs];exact hl)⟩
theorem B9:cJ K (zQ K) (g1 dW):=ed fun σ H0 F H e x z v Q R A hg q=>by
  unfold dW at hg
  split at hg
  case h_2=>cases hg
  case h_1 xs h5=>
  obtain⟨p,vs,rfl,d1,s1⟩:=cI R A h5
  obtain⟨ns,h6,hg⟩:=MJ hg
  split at hg
  case isFalse=>cases hg
  case isTrue hl=>
  cases hg
  rw [nZ h6] at d1
  have s1':dN K H p vs:=s1
  rw [aN.ints.mp d1] at s1'
  refine⟨p,ns,rfl,s1',hl,fun l H' sm hn hl'=>?_⟩
  obtain⟨R4,X4⟩:=R.same sm
  exact q F H' _ X4 R4 ⟨l,_,rfl,hn,R.freeF hn,hl',aN.ints.mpr rfl,fun z=>R.ownH l ((R.sameOwn sm l).mp z) hn⟩
mutual
def CH:MT→Bool
  | .tuple ds=>vE ds
  | .list _=>false
  | .dict _=>false
  | _=>true
def vE:List MT→Bool
  | []=>true
  | d::r=>CH d&&vE r
end
mutual
def yW:MT→Bool
  | .list _=>false
  | .tuple ds=>s_ ds
  | _=>true
def s_:List MT→Bool
  | []=>true
  | d::r=>yW d&&s_ r
end
end
section
variable{K:MS}{σ:L2.St}{H0 F H F' H':Hp}{e e':En}
theorem aY.upd1(R:aY K F H σ e){σ':L2.St}(i:Nat)(hl:σ'.length=e'.length)(hσ:∀j,j≠i→σ'[j]?=σ[j]?)(he:∀j,j≠i→e'[j]?=e[j]?)(sF:ao F F')(sm:ao F' H')(hf:∀j a,j≠i→Fp σ e H j a→F' a=none)
    (hh:∀j a o,j≠i→Fp σ e H j a→H a=some o→H' a=some o)(hd:∀x,e'[i]?=some (some (.d x))→∃v,σ'[i]?=some (some v)∧DA K F' x v)
    (ho:∀xs,e'[i]?=some (some (.l xs))→∃l vs,σ'[i]?=some (some (.ref l))∧F' l=none∧H' l=some (.lst vs)∧aN K F' xs vs)
    (hn:∀xss,e'[i]?=some (some (.n xss))→∃(l:xM) (bs:List xM),σ'[i]?=some (some (.ref l))∧F' l=none∧H' l=some (.lst (bs.map V.ref))∧bs.length=xss.length∧bs.Nodup∧l∉bs∧
      ∀(k:Nat) (b:xM) (ys:List MT),bs[k]?=some b→xss[k]?=some ys→F' b=none∧∃us,H' b=some (.lst us)∧aN K F' ys us)
    (hi:∀a j,j≠i→Fp σ' e' H' i a→¬Fp σ e H j a):aY K F' H' σ' e'∧∀j a,j≠i→(Fp σ' e' H' j a↔ Fp σ e H j a):=by
  have fs:∀j a,j≠i→(Fp σ' e' H' j a↔ Fp σ e H j a):=by
    intro j a hj
    have key:∀xss l,e[j]?=some (some (.n xss))→σ[j]?=some (some (.ref l))→H' l=H l:=fun xss l h1 h2=>by
      obtain⟨l',bs,g1,g2,g3,_⟩:=R.nst j xss h1
      rw [h2] at g1;cases g1
      rw [g3]
      exact hh j l _ hj (.inr ⟨xss,l,bs,h1,h2,g3,.inl rfl⟩) g3
    unfold Fp
    rw [he j hj,hσ j hj]
    constructor
    · rintro(h1 | ⟨xss,l,bs,h1,h2,h3,h4⟩)
      · exact .inl h1
      · exact .inr ⟨xss,l,bs,h1,h2,by rw [←key xss l h1 h2];exact h3,h4⟩
    · rintro(h1 | ⟨xss,l,bs,h1,h2,h3,h4⟩)
      · exact .inl h1
      · exact .inr ⟨xss,l,bs,h1,h2,by rw [key xss l h1 h2];exact h3,h4⟩
  refine⟨⟨sm,hl,fun j x q=>?_,fun j xs q=>?_,fun j xss q=>?_,fun j k a q1 q2=>?_⟩,fs⟩
  · by_cases z:j=i
    · subst z;exact hd x q
    · rw [he j z] at q
      obtain⟨v,h1,h2⟩:=R.dat j x q
      exact⟨v,by rw [hσ j z];exact h1,DA.mono sF h2⟩
  · by_cases z:j=i
    · subst z;exact ho xs q
    · rw [he j z] at q
      obtain⟨l,vs,h1,h2,h3,h4⟩:=R.own j xs q
      have o:Fp σ e H j l:=.inl ⟨xs,q,h1⟩
      exact⟨l,vs,by rw [hσ j z];exact h1,hf j l z o,hh j l _ z o h3,h4.mono sF⟩
  · by_cases z:j=i
    · subst z;exact hn xss q
    · rw [he j z] at q
      obtain⟨l,bs,h1,h2,h3,h4,h5,h6,h7⟩:=R.nst j xss q
      have o:Fp σ e H j l:=.inr ⟨xss,l,bs,q,h1,h3,.inl rfl⟩
      refine⟨l,bs,by rw [hσ j z];exact h1,hf j l z o,hh j l _ z o h3,h4,h5,h6,fun k b ys g1 g2=>?_⟩
      obtain⟨c1,us,c2,c3⟩:=h7 k b ys g1 g2
      have ob:Fp σ e H j b:=.inr ⟨xss,l,bs,q,h1,h3,.inr (MR g1)⟩
      exact⟨hf j b z ob,us,hh j b _ z ob c2,c3.mono sF⟩
  · by_cases zj:j=i
    · subst zj
      by_cases zk:k=j
      · exact zk.symm
      · exact absurd ((fs k a zk).mp q2) (hi a k zk q1)
    · by_cases zk:k=i
      · subst zk
        exact absurd ((fs j a zj).mp q1) (hi a j zj q2)
      · exact R.fp j k a ((fs j a zj).mp q1) ((fs k a zk).mp q2)
theorem aY.putL(R:aY K F H σ e){i:Nat}{xs ys:List MT}{l:xM}{vs:List V}(hi:e[i]?=some (some (.l xs)))(hl:σ[i]?=some (some (.ref l)))(hd:aN K F ys vs):
    aY K F (bv H l (.lst vs)) σ (e.set i (some (.l ys)))∧cS σ F H e F (bv H l (.lst vs)) (e.set i (some (.l ys))):=by
  obtain⟨l',vs',h1,h2,h3,h4⟩:=R.own i xs hi
  rw [hl] at h1;cases h1
  have hlt:i < e.length:=(MN hi).1
  have fi:Fp σ e H i l:=.inl ⟨xs,hi,hl⟩
  have gi:(e.set i (some (Sv.l ys)))[i]?=some (some (.l ys)):=Od hlt
  obtain⟨R',fs⟩:=R.upd1 (F':=F) (H':=bv H l (.lst vs)) (e':=e.set i (some (.l ys))) i (by rw [Pt];exact R.len) (fun _ _=>rfl) (fun j hj=>Nq (Ny hj)) (ao.refl F)
    (fun b o q=>by
      have z:b≠l:=fun z=>by rw [z,h2] at q;cases q
      rw [ar z];exact R.sm b o q)
    (fun j a _ q=>(R.fpAt q).1)
    (fun j a o hj q ha=>by
      have z:a≠l:=fun z=>hj (R.fp j i a q (by rw [z];exact fi))
      rw [ar z];exact ha)
    (fun x q=>by rw [gi] at q;cases q) (fun zs q=>by rw [gi] at q;cases q;exact⟨l,vs,hl,h2,aq,hd⟩) (fun xss q=>by rw [gi] at q;cases q)
    (fun a j hj q q2=>by
      rcases q with ⟨zs,_,q⟩ | ⟨xss,_,_,q,_⟩
      · rw [hl] at q;cases q
        exact hj (R.fp j i _ q2 fi)
      · rw [gi] at q;cases q)
  refine⟨R',⟨ao.refl _,fun a q=>?_,fun _ _ q _ _=>q,fun a ws q=>?_,fun a o q n=>?_,fun j=>?_,fun a ⟨j,q⟩=>?_,fun _ _ q _ _=>q⟩⟩
  · by_cases z:a=l
    · rw [z,aq] at q;cases q
    · rw [ar z] at q;exact q
  · by_cases z:a=l
    · rw [z];exact⟨vs,aq⟩
    · rw [ar z];exact⟨ws,q⟩
  · have z:a≠l:=fun z=>n ⟨i,by rw [z];exact fi⟩
    rw [ar z];exact q
  · by_cases z:j=i
    · subst z;rw [gi];exact⟨fun _=>⟨xs,hi⟩,fun _=>⟨ys,rfl⟩⟩
    · rw [Nq (Ny z)]
  · by_cases z:j=i
    · subst z
      rcases q with ⟨zs,_,q⟩ | ⟨xss,_,_,q,_⟩
      · rw [hl] at q;cases q;exact .inl ⟨j,fi⟩
      · rw [gi] at q;cases q
    · exact .inl ⟨j,(fs j a z).mp q⟩
theorem aY.setD(R:aY K F H σ e)(i:Nat){x:MT}{v:V}(h:DA K F x v):aY K F H (σ.set i (some v)) (e.set i (some (.d x)))∧∀a,bw (σ.set i (some v)) (e.set i (some (.d x))) H a→bw σ e H a:=by
  have gi:∀s,(e.set i (some (Sv.d x)))[i]?=some (some s)→s=.d x∧i < e.length:=fun s q=>by
    have hlt:i < e.length:=by have:=(MN q).1;simpa using this
    rw [Od hlt] at q
    exact⟨(Og (Og q)).symm,hlt⟩
  have nofp:∀a,¬Fp (σ.set i (some v)) (e.set i (some (.d x))) H i a:=fun a q=>by
    rcases q with ⟨zs,q,_⟩ | ⟨xss,_,_,q,_⟩
    · cases (gi _ q).1
    · cases (gi _ q).1
  obtain⟨R',fs⟩:=R.upd1 (F':=F) (H':=H) (σ':=σ.set i (some v)) (e':=e.set i (some (.d x))) i (by rw [Pt,Pt];exact R.len) (fun j hj=>Nq (Ny hj)) (fun j hj=>Nq (Ny hj)) (ao.refl F) R.sm
    (fun j a _ q=>(R.fpAt q).1) (fun j a o _ _ ha=>ha)
    (fun y q=>by
      obtain⟨z,hlt⟩:=gi _ q
      cases z
      exact⟨v,Od (by rw [R.len];exact hlt),h⟩)
    (fun zs q=>by cases (gi _ q).1) (fun xss q=>by cases (gi _ q).1) (fun a j hj q=>absurd q (nofp a))
  refine⟨R',fun a ⟨j,q⟩=>?_⟩
  by_cases z:j=i
  · subst z;exact absurd q (nofp a)
  · exact⟨j,(fs j a z).mp q⟩
theorem aY.setL(R:aY K F H σ e)(i:Nat){xs:List MT}{l:xM}{vs:List V}(h1:F l=none)(h2:H l=some (.lst vs))(h3:aN K F xs vs)(h4:¬bw σ e H l):aY K F H (σ.set i (some (.ref l))) (e.set i (some (.l xs)))∧∀a,bw (σ.set i (some (.ref l))) (e.set i (some (.l xs))) H a→bw σ e H a∨a=l:=by
  have gi:∀s,(e.set i (some (Sv.l xs)))[i]?=some (some s)→s=.l xs∧i < e.length:=fun s q=>by
    have hlt:i < e.length:=by have:=(MN q).1;simpa using this
    rw [Od hlt] at q
    exact⟨(Og (Og q)).symm,hlt⟩
  have onefp:∀a,Fp (σ.set i (some (.ref l))) (e.set i (some (.l xs))) H i a→a=l:=fun a q=>by
    rcases q with ⟨zs,q,q2⟩ | ⟨xss,_,_,q,_⟩
    · obtain⟨_,hlt⟩:=gi _ q
      rw [Od (by rw [R.len];exact hlt)] at q2
      cases q2;rfl
    · cases (gi _ q).1
  obtain⟨R',fs⟩:=R.upd1 (F':=F) (H':=H) (σ':=σ.set i (some (.ref l))) (e':=e.set i (some (.l xs))) i (by rw [Pt,Pt];exact R.len) (fun j hj=>Nq (Ny hj)) (fun j hj=>Nq (Ny hj)) (ao.refl F) R.sm
    (fun j a _ q=>(R.fpAt q).1) (fun j a o _ _ ha=>ha) (fun y q=>by cases (gi _ q).1)
    (fun zs q=>by
      obtain⟨z,hlt⟩:=gi _ q
      cases z
      exact⟨l,vs,Od (by rw [R.len];exact hlt),h1,h2,h3⟩)
    (fun xss q=>by cases (gi _ q).1) (fun a j hj q q2=>h4 ⟨j,by rw [onefp a q] at q2;exact q2⟩)
  refine⟨R',fun a ⟨j,q⟩=>?_⟩
  by_cases z:j=i
  · subst z;exact .inr (onefp a q)
  · exact .inl ⟨j,(fs j a z).mp q⟩
end
section
variable{X:Cx}{K:MS}{o a:MU}{es:List MU}{fo:FE}{fs:FA}{name:Str}{apos cpos:Pos}{id:String}
def m4(K:MS)(r:V→List V→Hp→VK→Prop)(g:List MT→List MT→Option (MT × List MT)):Prop:=
  ∀(F H:Hp) (l:xM) (xs ys ds:List MT) (z:MT) (vs us:List V) (Q:VK),F l=none→ao F H→H l=some (.lst vs)→aN K F xs vs→aN K F ds us→g xs ds=some (z,ys)→
    (∀w ws,DA K F z w→aN K F ys ws→Q w (bv H l (.lst ws)))→r (.ref l) us H Q
def b7(g:List MT→List MT→Option (MT × List MT))(fo:FE)(fs:FA):FE:=fun e=>(fo e).bind fun p=>match p.1 with
  | .s i=>(fs p.2).bind fun q=>(gj q.1).bind fun ds=>match q.2[i]? with
    | some (some (.l xs))=>(g xs ds).map fun z=>(.d z.1,q.2.set i (some (.l z.2)))
    | _=>none
  | _=>none
theorem ue{r:V→List V→Hp→VK→Prop}{g:List MT→List MT→Option (MT × List MT)}(hm:m4 K r g){σ:L2.St}{H:Hp}{Q:VK}(h:fE K (b7 g fo fs) σ H Q):JB K "list" r (fE K fo) (fA K fs) σ H Q:=by
  obtain⟨F,e,z,e',R,hf,q⟩:=h
  unfold b7 at hf
  obtain⟨⟨x,e1⟩,h1,hf⟩:=MJ hf
  match x,h1,hf with
  | .s i,h1,hf=>
  dsimp only at hf
  obtain⟨⟨rs,e2⟩,h2,hf⟩:=MJ hf
  obtain⟨ds,h3,hf⟩:=MJ hf
  refine⟨F,e,_,e1,R,h1,fun F1 H1 v X1 R1 A1=>?_⟩
  obtain⟨g1,zs,g2⟩:=A1
  obtain⟨l,vs,c1,c2,c3,c4⟩:=R1.own i zs g2
  rw [g1] at c1;cases c1
  refine⟨.inl ⟨rfl,vs,.inl (.inl c3)⟩,F1,e1,rs,e2,R1,h2,fun F2 H2 us X2 R2 A2=>?_⟩
  match h4:e2[i]?,hf with
  | some (some (.l xs)),hf=>
  dsimp only at hf
  obtain⟨⟨zd,ys⟩,h5,hf⟩:=ML hf
  cases hf
  obtain⟨F3,R3,s3,d3,f3⟩:=dr.frozen R2 A2 h3
  obtain⟨l',vs',k1,k2,k3,k4⟩:=R3.own i xs h4
  rw [g1] at k1;cases k1
  refine hm F3 H2 l xs ys ds zd vs' us Q k2 R3.sm k3 k4 d3 h5 fun w ws hw hws=>?_
  obtain⟨R4,X4⟩:=R3.putL h4 g1 hws
  exact q _ _ _ ((X1.trans (X2.frz s3 f3)).trans X4) R4 hw
theorem C3{r:V→List V→Hp→VK→Prop}{g:List MT→List MT→Option (MT × List MT)}(slot:Slot "list" name id)(hty:typeOf (.builtin id)=pure (.type "method_descriptor"))(hm:Di X id r)(hf:m4 X.K r g)(ho:PE X o (fE X.K fo))(ha:PA X (a::es) (fA X.K fs))
    (hbase:Oh o name X.env (Nh o X.env)=Nh o X.env)
    (hfew:((Nr cpos (Nf (a::es) X.env)).all (fun x=> !x.1)&&(OF cpos (OG [] X.env)).all (fun x=>x.1.isSome)
      &&decide ((a::es).length+([]:List NV).length+(if ([]:List NV).isEmpty then 0 else 1) < 30))=true)
    (hline:(apos.endLine==cpos.line)=true)(hs:Nf (a::es) X.env=(false,Nh a X.env)::Nf es X.env)(hplain:(Nr cpos (Nf es X.env)).any (·.1)=false):
    PE X (.Call (.Attribute o name apos) (a::es) [] cpos) (fE X.K (b7 g fo fs)):=(zc PySem.F.plainAttrs_list slot hty hm ho ha hbase hfew hline hs hplain).mono fun _ _ _ h=>ue hf h
theorem zG{r:V→List V→Hp→VK→Prop}{g:List MT→List MT→Option (MT × List MT)}(slot:Slot "list" name id)(hty:typeOf (.builtin id)=pure (.type "method_descriptor"))(hm:Di X id r)(hf:m4 X.K r g)(ho:PE X o (fE X.K fo))
    (hbase:Oh o name X.env (Nh o X.env)=Nh o X.env)(hline:(apos.endLine==cpos.line)=true):PE X (.Call (.Attribute o name apos) [] [] cpos) (fE X.K (b7 g fo ah)):=(ze PySem.F.plainAttrs_list slot hty hm ho hbase hline).mono fun σ H Q h=>by
  obtain⟨F,e,r',e',R,hf',q⟩:=ue hf h
  refine⟨F,e,r',e',R,hf',fun F1 H1 v X1 R1 A1=>?_⟩
  obtain⟨ty,G,e2,rs,e3,R2,h2,q2⟩:=q F1 H1 v X1 R1 A1
  cases h2
  exact⟨ty,q2 G H1 [] (cS.refl _ _ _ _) R2 rfl⟩
def bK:List MT→List MT→Option (MT × List MT):=fun xs ds=>match ds with
  | [d]=>if xs.length < 1000000 then some (.none,xs++[d]) else none
  | _=>none
theorem xV:m4 K we bK:=by
  intro F H l xs ys ds z vs us Q hF sm hl d1 d2 hg q
  unfold bK at hg
  match ds,hg,d2 with
  | [d],hg,d2=>
    simp only [aN] at d2
    obtain⟨w,r,rfl,hw,rfl⟩:=d2
    dsimp only at hg
    split at hg
    case isFalse=>cases hg
    case isTrue hlt=>
    cases hg
    have:=d1.len
    have sl:Nl=16777216:=NU
    exact⟨l,vs,w,rfl,rfl,hl,by lia,q _ _ (ee.mpr rfl) (d1.append (aN.one hw))⟩
def mK:List MT→List MT→Option (MT × List MT):=fun xs ds=>match ds with
  | []=>(xs[xs.length - 1]?).map fun d=>(d,xs.dropLast)
  | _=>none
theorem aN.dropLast{F:Hp}{ds:List MT}{vs:List V}(h:aN K F ds vs):aN K F ds.dropLast vs.dropLast:=by
  rw [List.dropLast_eq_take,List.dropLast_eq_take,h.len];exact h.take _
theorem GR:m4 K G5 mK:=by
  intro F H l xs ys ds z vs us Q hF sm hl d1 d2 hg q
  unfold mK at hg
  match ds,hg,d2 with
  | [],hg,d2=>
    simp only [aN] at d2
    subst d2
    obtain⟨d,h1,h2⟩:=ML hg
    cases h2
    obtain⟨v,g1,g2⟩:=d1.get h1
    rw [d1.len] at g1
    exact⟨l,vs,v,rfl,rfl,hl,g1,q _ _ g2 d1.dropLast⟩
def fL:List MT→List MT→Option (MT × List MT):=fun xs ds=>match ds with
  | [.int i]=>if 0≤i∧i < 1000000000 then(xs[i.toNat]?).map fun d=>(d,xs.eraseIdx i.toNat) else none
  | _=>none
theorem BR:m4 K zO fL:=by
  intro F H l xs ys ds z vs us Q hF sm hl d1 d2 hg q
  unfold fL at hg
  match ds,hg,d2 with
  | [.int i],hg,d2=>
    simp only [aN,DA] at d2
    obtain⟨w,r,rfl,rfl,rfl⟩:=d2
    dsimp only at hg
    split at hg
    case isFalse=>cases hg
    case isTrue hlt=>
    obtain⟨d,h1,h2⟩:=ML hg
    cases h2
    obtain⟨v,g1,g2⟩:=d1.get h1
    have hlt2:i.toNat < vs.length:=(MN g1).1
    exact⟨l,vs,i,i.toNat,v,rfl,rfl,hl,by lia,by lia,seqIndex_of hlt.1 (by lia),g1,q _ _ g2 (d1.erase _)⟩
end
inductive Fl where
  | nx (e:En)
  | bk (e:En)
  | ct (e:En)
  | rt (r:Rv) (e:En)
abbrev FS:=En→Option Fl
structure cY (W:List Nat) (σ:L2.St) (F H:Hp) (e:En) (σ':L2.St) (F' H':Hp) (e':En):Prop where
  sf:ao F F'
  dom:∀a,H' a=none→H a=none
  fr:∀a vs,F a=none→H a=some (.lst vs)→¬bw σ e H a→F' a=none
  lst:∀a vs,H a=some (.lst vs)→∃vs',H' a=some (.lst vs')
  tmp:∀a o,H a=some o→¬bw σ e H a→H' a=some o
  own:∀a,bw σ' e' H' a→bw σ e H a∨H a=none
  wr:∀j,j∉W→σ'[j]?=σ[j]?
  fd:∀a (m:DI),F a=none→H a=some m.1→¬bw σ e H a→F' a=none
section
variable{K:MS}{W W1 W2:List Nat}{σ σ1 σ2 σ':L2.St}{H0 F H F1 H1 F2 H2 F' H':Hp}{e e1 e2 e':En}
theorem cY.refl:cY W σ F H e σ F H e:=⟨ao.refl _,fun _ h=>h,fun _ _ h _ _=>h,fun _ vs h=>⟨vs,h⟩,fun _ _ h _=>h,fun _ h=>.inl h,fun _ _=>rfl,fun _ _ h _ _=>h⟩
theorem cS.s(x:cS σ F H e F' H' e'):cY W σ F H e σ F' H' e':=⟨x.sf,x.dom,x.fr,x.lst,x.tmp,x.ow,fun _ _=>rfl,x.fd⟩
theorem cY.trans(x:cY W σ F H e σ1 F1 H1 e1)(y:cY W σ1 F1 H1 e1 σ2 F2 H2 e2):cY W σ F H e σ2 F2 H2 e2:=
  ⟨x.sf.trans y.sf,fun a h=>x.dom a (y.dom a h),fun a vs h n no=>let ⟨vs',q⟩:=x.lst a vs n;y.fr a vs' (x.fr a vs h n no) q (fun z=>(x.own a z).elim no fun z=>by rw [n] at z;cases z),fun a vs h=>let ⟨vs',q⟩:=x.lst a vs h;y.lst a vs' q,
    fun a o h n=>y.tmp a o (x.tmp a o h n) (fun z=>(x.own a z).elim n fun z=>by rw [h] at z;cases z),
    fun a h=>(y.own a h).elim (x.own a) (fun z=>.inr (x.dom a z)),
    fun j h=>(y.wr j h).trans (x.wr j h),
    fun a m h n no=>y.fd a m (x.fd a m h n no) (x.tmp a _ n no) (fun z=>(x.own a z).elim no fun z=>by rw [n] at z;cases z)⟩
theorem cY.mono(x:cY W1 σ F H e σ' F' H' e')(h:∀j,j∈W1→j∈W):cY W σ F H e σ' F' H' e':=⟨x.sf,x.dom,x.fr,x.lst,x.tmp,x.own,fun j n=>x.wr j fun z=>n (h j z),x.fd⟩
end
def nI(K:MS)(W:List Nat)(σ:L2.St)(F H:Hp)(e:En)(D:pj):Fl→Prop
  | .nx e'=>∀F' H' σ',cY W σ F H e σ' F' H' e'→aY K F' H' σ' e'→D.nx σ' H'
  | .bk e'=>∀F' H' σ',cY W σ F H e σ' F' H' e'→aY K F' H' σ' e'→D.bk σ' H'
  | .ct e'=>∀F' H' σ',cY W σ F H e σ' F' H' e'→aY K F' H' σ' e'→D.ct σ' H'
  | .rt r e'=>∀F' H' σ' v,cY W σ F H e σ' F' H' e'→aY K F' H' σ' e'→bZ K σ' H F' H' e' r v→D.rt v H'
def fS(K:MS)(f:FS)(W:List Nat):TS:=fun D σ H=>∃F e fl,aY K F H σ e∧f e=some fl∧nI K W σ F H e D fl
theorem PS.mono{X:Cx}{st:Na}{t t':TS}(h:PS X st t)(m:∀D σ H,t' D σ H→t D σ H):PS X st t':=fun pins s σ H D I q=>h pins s σ H D I (m D σ H q)
theorem i0.mono{X:Cx}{st:List Na}{t t':TS}(h:i0 X st t)(m:∀D σ H,t' D σ H→t D σ H):i0 X st t':=fun pins s σ H D I q=>h pins s σ H D I (m D σ H q)
theorem nI.later{K:MS}{W W1 W2:List Nat}{σ σ1:L2.St}{F H F1 H1:Hp}{e e1:En}{D:pj}{fl:Fl}(h:nI K W σ F H e D fl)(x:cY W1 σ F H e σ1 F1 H1 e1)(h1:∀j,j∈W1→j∈W)(h2:∀j,j∈W2→j∈W):nI K W2 σ1 F1 H1 e1 D fl:=by
  cases fl with
  | nx e'=>exact fun F' H' σ' y R=>h F' H' σ' ((x.mono h1).trans (y.mono h2)) R
  | bk e'=>exact fun F' H' σ' y R=>h F' H' σ' ((x.mono h1).trans (y.mono h2)) R
  | ct e'=>exact fun F' H' σ' y R=>h F' H' σ' ((x.mono h1).trans (y.mono h2)) R
  | rt r e'=>exact fun F' H' σ' v y R A=>h F' H' σ' v ((x.mono h1).trans (y.mono h2)) R (A.weak x.dom)
section
variable{X:Cx}{K:MS}{W W1 W2:List Nat}{st:Na}{cf:List Na}{f g:FS}{a b:MU}{fa:FE}{ft:FT}{pos:Pos}
def cG:FS:=fun e=>some (.nx e)
def aL(f g:FS):FS:=fun e=>(f e).bind fun fl=>match fl with
  | .nx e1=>g e1
  | fl=>some fl
theorem a9:i0 X [] (fS K cG []):=vS.mono fun D σ H h=>by
  obtain⟨F,e,fl,R,hf,q⟩:=h
  cases hf
  exact q F H σ cY.refl R
theorem af(h1:PS X st (fS K f W1))(h2:i0 X cf (fS K g W2)):i0 X (st::cf) (fS K (aL f g) (W1++W2)):=(kU h1 h2).mono fun D σ H h=>by
  obtain⟨F,e,fl,R,hf,q⟩:=h
  unfold aL at hf
  obtain⟨fl1,h1,hf⟩:=MJ hf
  have s1:∀j,j∈W1→j∈W1++W2:=fun j h=>Of.mpr (.inl h)
  have s2:∀j,j∈W2→j∈W1++W2:=fun j h=>Of.mpr (.inr h)
  refine⟨F,e,fl1,R,h1,?_⟩
  cases fl1 with
  | nx e1=>exact fun F' H' σ' x R'=>⟨F',e1,fl,R',hf,q.later x s1 s2⟩
  | bk e1=>cases hf;exact fun F' H' σ' x R'=>q F' H' σ' (x.mono s1) R'
  | ct e1=>cases hf;exact fun F' H' σ' x R'=>q F' H' σ' (x.mono s1) R'
  | rt r e1=>cases hf;exact fun F' H' σ' v x R' A=>q F' H' σ' v (x.mono s1) R' A
theorem aj(h1:PS X st (fS K f W)):i0 X [st] (fS K f W):=rE h1
def eD(fa:FE):FS:=fun e=>(fa e).map fun p=>.nx p.2
theorem eU(he:PE X a (fE K fa))(hs:OT a none pos.line X.env=pure false):PS X (.Expr a pos) (fS K (eD fa) []):=(BU he hs).mono fun D σ H h=>by
  obtain⟨F,e,fl,R,hf,q⟩:=h
  obtain⟨⟨x,e1⟩,h1,hf⟩:=ML hf
  cases hf
  exact⟨F,e,x,e1,R,h1,fun F1 H1 v X1 R1 A1=>q F1 H1 σ X1.s R1⟩
def bh(fa:FE):FS:=fun e=>(fa e).map fun p=>.rt p.1 p.2
theorem aw(he:PE X a (fE K fa)):PS X (.Return (some a) pos) (fS K (bh fa) []):=(uX he).mono fun D σ H h=>by
  obtain⟨F,e,fl,R,hf,q⟩:=h
  obtain⟨⟨x,e1⟩,h1,hf⟩:=ML hf
  cases hf
  exact⟨F,e,x,e1,R,h1,fun F1 H1 v X1 R1 A1=>q F1 H1 σ v X1.s R1 A1⟩
def iO(ft:FT)(f g:FS):FS:=fun e=>(ft e).bind fun p=>if p.1=true then f p.2 else g p.2
theorem ck{c:MU}{bs cs:List Na}(hc:PT X c (fT K ft))(ha:i0 X bs (fS K f W1))(hb:i0 X cs (fS K g W2)):PS X (.If c bs cs pos) (fS K (iO ft f g) (W1++W2)):=(CY hc ha hb).mono fun D σ H h=>by
  obtain⟨F,e,fl,R,hf,q⟩:=h
  unfold iO at hf
  obtain⟨⟨x,e1⟩,h1,hf⟩:=MJ hf
  refine⟨F,e,x,e1,R,h1,fun F1 H1 X1 R1=>?_⟩
  cases x with
  | true=>exact⟨F1,e1,fl,R1,hf,q.later (W1:=[]) X1.s (fun j h=>by cases h) fun j h=>Of.mpr (.inl h)⟩
  | false=>exact⟨F1,e1,fl,R1,hf,q.later (W1:=[]) X1.s (fun j h=>by cases h) fun j h=>Of.mpr (.inr h)⟩
def rF(i:Nat)(r:Rv)(e:En):Option En:=match r with
  | .d x=>some (e.set i (some (.d x)))
  | .l xs=>some (e.set i (some (.l xs)))
  | .s _=>none
theorem EQ{σ:L2.St}{H F H1 F1:Hp}{e e1 e2:En}{i:Nat}{r:Rv}{v:V}(R:aY K F H σ e)(X1:cS σ F H e F1 H1 e1)(R1:aY K F1 H1 σ e1)(A1:bZ K σ H F1 H1 e1 r v)(h:rF i r e1=some e2):
    cY [i] σ F H e (σ.set i (some v)) F1 H1 e2∧aY K F1 H1 (σ.set i (some v)) e2:=by
  have wr:∀j,j∉[i]→(σ.set i (some v))[j]?=σ[j]?:=fun j n=>Nq (fun z=>n (by simp [z]))
  cases r with
  | d x=>
    cases h
    obtain⟨R2,o2⟩:=R1.setD i A1
    exact⟨⟨X1.sf,X1.dom,X1.fr,X1.lst,X1.tmp,fun a h=>X1.ow a (o2 a h),wr,X1.fd⟩,R2⟩
  | l xs=>
    cases h
    obtain⟨l,vs,rfl,h1,h2,h3,h4,h5⟩:=A1
    obtain⟨R2,o2⟩:=R1.setL i h2 h3 h4 h5
    refine⟨⟨X1.sf,X1.dom,X1.fr,X1.lst,X1.tmp,fun a h=>?_,wr,X1.fd⟩,R2⟩
    rcases o2 a h with z | z
    · exact X1.ow a z
    · exact .inr (by rw [z];exact h1)
  | s j=>cases h
def bi(i:Nat)(fa:FE):FS:=fun e=>(fa e).bind fun p=>(rF i p.1 p.2).map .nx
theorem aG{i:Nat}{x:Str}{pos':Pos}(hN:X.N.Nodup)(hi:X.N[i]?=some x)(hx:xT X.env.scope x)(he:PE X a (fE K fa))(hs:OT a (some (.Name x pos')) pos.line X.env=pure false)(hf:X.fn x=true∨X.env.scope.names.lookup x=some .local):
    PS X (.Assign [.Name x pos'] a pos) (fS K (bi i fa) [i]):=(rD hN hi hx he hs hf).mono fun D σ H h=>by
  obtain⟨F,e,fl,R,hf,q⟩:=h
  unfold bi at hf
  obtain⟨⟨r,e1⟩,h1,hf⟩:=MJ hf
  obtain⟨e2,h2,hf⟩:=ML hf
  cases hf
  refine⟨F,e,r,e1,R,h1,fun F1 H1 v X1 R1 A1=>?_⟩
  obtain⟨x,R2⟩:=EQ R X1 R1 A1 h2
  exact q F1 H1 _ x R2
abbrev FG:=MT→En→Option En
def fG(K:MS)(g:FG)(W:List Nat):TG:=fun v σ H Q=>∃F e x e',aY K F H σ e∧DA K F x v∧g x e=some e'∧∀σ',cY W σ F H e σ' F H e'→aY K F H σ' e'→Q σ' H
abbrev Cs:=List MT→En→Option En
def HK(K:MS)(g:Cs)(W:List Nat):Aq:=fun vs σ H Q=>∃F e xs e',aY K F H σ e∧aN K F xs vs∧g xs e=some e'∧∀σ',cY W σ F H e σ' F H e'→aY K F H σ' e'→Q σ' H
theorem PG.mono{tg:MU}{t t':TG}(h:PG X tg t)(m:∀v σ H Q,t' v σ H Q→t v σ H Q):PG X tg t':=fun pins s σ H v u Q I r q=>h pins s σ H v u Q I r (m v σ H Q q)
theorem xQ.mono{tg:List MU}{t t':Aq}(h:xQ X tg t)(m:∀v σ H Q,t' v σ H Q→t v σ H Q):xQ X tg t':=fun pins s σ H v u Q I r q=>h pins s σ H v u Q I r (m v σ H Q q)
def am(i:Nat):FG:=fun x e=>some (e.set i (some (.d x)))
def cm:Cs:=fun xs e=>match xs with
  | []=>some e
  | _=>none
def aS(g:FG)(gs:Cs):Cs:=fun xs e=>match xs with
  | x::r=>(g x e).bind fun e1=>gs r e1
  | _=>none
def cK(gs:Cs):FG:=fun x e=>match x with
  | .tuple xs=>gs xs e
  | _=>none
theorem aF{i:Nat}{x:Str}(hN:X.N.Nodup)(hi:X.N[i]?=some x)(hx:xT X.env.scope x)(hf:X.fn x=true∨X.env.scope.names.lookup x=some .local):PG X (.Name x pos) (fG K (am i) [i]):=(rC hN hi hx hf).mono fun v σ H Q h=>by
  obtain⟨F,e,x,e',R,hx,hg,q⟩:=h
  cases hg
  obtain⟨R2,o2⟩:=R.setD i hx
  exact q _ ⟨ao.refl _,fun _ h=>h,fun _ _ h _ _=>h,fun _ vs h=>⟨vs,h⟩,fun _ _ h _=>h,fun a h=>.inl (o2 a h),fun j n=>Nq (fun z=>n (by simp [z])),fun _ _ h _ _=>h⟩ R2
theorem el:xQ X [] (HK K cm []):=vR.mono fun v σ H Q h=>by
  obtain⟨F,e,x,e',R,hx,hg,q⟩:=h
  unfold cm at hg
  split at hg
  · cases hg
    simp only [aN] at hx
    exact⟨hx,q σ cY.refl R⟩
  · cases hg
theorem ba{es:List MU}{g1:FG}{gs:Cs}(h1:PG X a (fG K g1 W1))(h2:xQ X es (HK K gs W2))
    (hs:(NL (a::es) X.env).map (·.2)=assign a X.env::(NL es X.env).map (·.2)):xQ X (a::es) (HK K (aS g1 gs) (W1++W2)):=(oy h1 h2 hs).mono fun v σ H Q h=>by
  obtain⟨F,e,xs,e',R,hx,hg,q⟩:=h
  unfold aS at hg
  match xs,hg,hx with
  | x::r,hg,hx=>
    simp only [aN] at hx
    obtain⟨w,ws,e1,hw,hr⟩:=hx
    dsimp only at hg
    obtain⟨e1',h3,h4⟩:=MJ hg
    refine⟨w,ws,e1,F,e,x,e1',R,hw,h3,fun σ1 x1 R1=>⟨F,e1',r,e',R1,hr,h4,fun σ2 x2 R2=>?_⟩⟩
    exact q σ2 ((x1.mono fun j h=>Of.mpr (.inl h)).trans (x2.mono fun j h=>Of.mpr (.inr h))) R2
theorem gD{es:List MU}{k n:Nat}{gs:Cs}(hK:X.K=K)(hc:X.calm=true)(h:xQ X es (HK K gs W))(hl:∀xs e e',gs xs e=some e'→xs.length=n)(hn:(NL es X.env).length=n)(hst:(NL es X.env).findIdx? (·.1)=none):PG X (.Tuple es k pos) (fG K (cK gs) W):=(vQ hK hc h hn hst).mono fun v σ H Q h=>by
  obtain⟨F,e,x,e',R,hx,hg,q⟩:=h
  unfold cK at hg
  match x,hg,hx with
  | .tuple xs,hg,hx=>
    obtain⟨p,vs,e1,e2,e3⟩:=c9.mp hx
    exact⟨p,vs,e1,R.sm.tup e2,by rw [←e3.len];exact hl xs e e' hg,F,e,xs,e',R,e3,hg,q⟩
theorem gB(xs:List MT)(e e':En)(h:cm xs e=some e'):xs.length=0:=by
  unfold cm at h
  split at h
  · rfl
  · cases h
theorem bx{g:FG}{gs:Cs}{n:Nat}(hl:∀xs e e',gs xs e=some e'→xs.length=n)(xs:List MT)(e e':En)(h:aS g gs xs e=some e'):xs.length=n+1:=by
  unfold aS at h
  match xs,h with
  | x::r,h=>
    obtain⟨e1,h3,h4⟩:=MJ h
    simp [hl r e1 e' h4]
def k8(fa:FE)(g:FG):FS:=fun e=>(fa e).bind fun p=>match p.1 with
  | .d x=>(g x p.2).map .nx
  | _=>none
theorem oB{tg:MU}{g:FG}(he:PE X a (fE K fa))(hg:PG X tg (fG K g W))(hs:PN [tg] a pos.line X.env=pure false)(hw:PP [tg] a X.env=pure none)
    (h1:(NL [tg] X.env).map (·.2)=[assign tg X.env]):PS X (.Assign [tg] a pos) (fS K (k8 fa g) W):=(zu he hg hs hw h1).mono fun D σ H h=>by
  obtain⟨F,e,fl,R,hf,q⟩:=h
  unfold k8 at hf
  obtain⟨⟨r,e1⟩,h1,hf⟩:=MJ hf
  match r,h1,hf with
  | .d x,h1,hf=>
    obtain⟨e2,h2,hf⟩:=ML hf
    cases hf
    exact⟨F,e,_,e1,R,h1,fun F1 H1 v X1 R1 A1=>⟨F1,e1,x,e2,R1,A1,h2,fun σ' x2 R2=>q F1 H1 σ' (X1.s.trans x2) R2⟩⟩
def pJ(i j:Nat)(fs:FA):FS:=fun e=>(fs e).bind fun p=>match p.1 with
  | [.d x,.d y]=>some (.nx ((p.2.set i (some (.d x))).set j (some (.d y))))
  | _=>none
theorem EY{i j:Nat}{x y:Str}{fs:FA}{px py pt:Pos}{kt k2 pt2}(hc:X.calm=true)(hN:X.N.Nodup)(hi:X.N[i]?=some x)(hj:X.N[j]?=some y)(hij:i≠j)
    (hx:X.env.scope.names.lookup x=some .local)(hy:X.env.scope.names.lookup y=some .local)(ha:PA X [a,b] (fA K fs))
    (hw:PP [.Tuple [.Name x px,.Name y py] kt pt] (.Tuple [a,b] k2 pt2) X.env=pure (some [x,y]))
    (hs:PN [.Tuple [.Name x px,.Name y py] kt pt] (.Tuple [a,b] k2 pt2) pos.line X.env=pure false):
    PS X (.Assign [.Tuple [.Name x px,.Name y py] kt pt] (.Tuple [a,b] k2 pt2) pos) (fS K (pJ i j fs) [i,j]):=(EN hc hN hi hj hij hx hy ha hw hs).mono fun D σ H h=>by
  obtain⟨F,e,fl,R,hf,q⟩:=h
  unfold pJ at hf
  obtain⟨⟨rs,e1⟩,h1,hf⟩:=MJ hf
  refine⟨F,e,rs,e1,R,h1,fun F1 H1 vs X1 R1 A1=>?_⟩
  match rs,hf,A1 with
  | [.d x,.d y],hf,A1=>
    cases hf
    obtain⟨v,u,rfl,a1,a2⟩:=wk A1
    obtain⟨R2,o2⟩:=R1.setD i a1
    obtain⟨R3,o3⟩:=R2.setD j a2
    refine⟨v,u,rfl,q F1 H1 _ ⟨X1.sf,X1.dom,X1.fr,X1.lst,X1.tmp,fun a h=>X1.ow a (o2 a (o3 a h)),fun m n=>?_,X1.fd⟩ R3⟩
    rw [Nq (fun z=>n (by simp [z])),Nq (fun z=>n (by simp [z]))]
def gM:Rv→Option MT
  | .d x=>some x
  | .l xs=>some (.list xs)
  | .s _=>none
theorem wX{r:Rv}{d:MT}(h:gM r=some d):gj [r]=some [d]:=by
  cases r with
  | d x=>cases h;rfl
  | l xs=>cases h;rfl
  | s i=>cases h
def iS(ft:FT)(f:FS):Nat→FS
  | 0,_=>none
  | n+1,e=>(ft e).bind fun p=>if p.1=true then(f p.2).bind fun fl=>match fl with
      | .nx e1=>iS ft f n e1
      | .ct e1=>iS ft f n e1
      | .bk e1=>some (.nx e1)
      | .rt r e1=>some (.rt r e1)
    else some (.nx p.2)
def oN(n:Nat)(ft:FT)(f:FS):FS:=iS ft f n
theorem tP{n:Nat}{c:MU}{body:List Na}(hp:PassesOwn (Ng X.prog X.w) X.A X.env X.xe)(hc:PT X c (fT K ft))(hb:i0 X body (fS K f W)):PS X (.While c body [] pos) (fS K (oN n ft f) W):=(zw hp hc hb).mono fun D σ H h=>by
  refine⟨fun m σ H=>∃F e fl,aY K F H σ e∧iS ft f m e=some fl∧nI K W σ F H e D fl,⟨n,h⟩,?_⟩
  rintro m σ H ⟨F,e,fl,R,hf,q⟩
  cases m with
  | zero=>cases hf
  | succ m=>
    unfold iS at hf
    obtain⟨⟨x,e1⟩,h1,hf⟩:=MJ hf
    refine⟨F,e,x,e1,R,h1,fun F1 H1 X1 R1=>?_⟩
    have sub:∀j,j∈([]:List Nat)→j∈W:=fun j h=>by cases h
    cases x with
    | false=>
      rw [if_neg (by simp)] at hf
      cases hf
      exact Gp (q F1 H1 σ X1.s R1)
    | true=>
      rw [if_pos rfl] at hf
      refine Gq ?_
      obtain⟨fl1,h2,hf⟩:=MJ hf
      have q1:nI K W σ F1 H1 e1 D fl:=q.later (W1:=[]) X1.s sub fun j h=>h
      refine⟨fun σ' H'=>∃F' e',aY K F' H' σ' e'∧iS ft f m e'=some fl∧nI K W σ' F' H' e' D fl,fun σ' H' ⟨F',e',r1,r2,r3⟩=>⟨m,Nat.lt_succ_self m,F',e',fl,r1,r2,r3⟩,F1,e1,fl1,R1,h2,?_⟩
      cases fl1 with
      | nx e2=>exact fun F2 H2 σ2 x R2=>⟨F2,e2,R2,hf,q1.later x (fun j h=>h) fun j h=>h⟩
      | ct e2=>exact fun F2 H2 σ2 x R2=>⟨F2,e2,R2,hf,q1.later x (fun j h=>h) fun j h=>h⟩
      | bk e2=>cases hf;exact fun F2 H2 σ2 x R2=>q1 F2 H2 σ2 x R2
      | rt r e2=>cases hf;exact fun F2 H2 σ2 v x R2 A=>q1 F2 H2 σ2 v x R2 A
end
theorem PI.mono{X:Cx}{tg iter:MU}{t t':TI}(h:PI X tg iter t)(m:∀σ H R,t' σ H R→t σ H R):PI X tg iter t':=fun pins s σ H R I q=>h pins s σ H R I (m σ H R q)
theorem PI.or{X:Cx}{tg iter:MU}{t t':TI}(h:PI X tg iter t)(h':PI X tg iter t'):PI X tg iter (fun σ H R=>t σ H R∨t' σ H R):=fun pins s σ H R I q=>by
  rcases q with q | q
  · exact h pins s σ H R I q
  · exact h' pins s σ H R I q
abbrev i5:=List (Nat × List MT)
def xS(K:MS)(σ:L2.St)(F H:Hp)(own:i5):Prop:=∀p∈own,∃l vs,σ[p.1]?=some (some (.ref l))∧H l=some (.lst vs)∧aN K F p.2 vs
def AD(K:MS)(σ:L2.St)(J:It)(items:List MT)(own:i5)(F0:Hp):Prop:=∀F H,ao F0 F→ao F H→xS K σ F H own→
  (∀i,i < items.length→J.go i H)∧(∀i,items.length≤i→J.stop i H)∧∀i d x H',items[i]?=some d→J.yld i H x H'→∃F',ao H H'∧ao F F'∧ao F' H'∧(∀a,F a=none→H a≠none→F' a=none)∧DA K F' d x
abbrev FI:=En→Option (List MT × i5 × En)
def keeps(own:i5)(e:En):Prop:=∀p∈own,e[p.1]?=some (some (.l p.2))
def fI(K:MS)(f:FI):TI:=fun σ H R=>∃F e items own e',aY K F H σ e∧f e=some (items,own,e')∧∀J F' H',cS σ F H e F' H' e'→aY K F' H' σ e'→keeps own e'→AD K σ J items own F'→R J H'
section
variable{K:MS}{σ:L2.St}{H0 F H F' H':Hp}{e e':En}
theorem aY.held(R:aY K F H σ e){own:i5}(h:keeps own e):xS K σ F H own:=fun p hp=>by
  obtain⟨l,vs,h1,h2,h3,h4⟩:=R.own p.1 p.2 (h p hp)
  exact⟨l,vs,h1,h3,h4⟩
theorem aY.step(R:aY K F H σ e)(s:ao H H')(sF:ao F F')(sm:ao F' H')(fz:∀a,F a=none→H a≠none→F' a=none):aY K F' H' σ e∧cS σ F H e F' H' e:=by
  obtain⟨R',o'⟩:=R.keep sF sm (fun a ⟨i,h⟩=>by
    obtain⟨h1,vs,h2⟩:=R.fpAt h
    exact fz a h1 (by rw [h2];simp)) fun a o _ h=>s a o h
  exact⟨R',⟨sF,fun a h=>s.free h,fun a vs h1 h2 _=>fz a h1 (by rw [h2];simp),fun a vs h=>⟨vs,s _ _ h⟩,fun a o h _=>s a o h,fun _=>Iff.rfl,fun a h=>.inl ((o' a).mp h),fun a m h1 h2 _=>fz a h1 (by rw [h2];simp)⟩⟩
inductive Cv (K:MS) (σ:L2.St) (F:Hp) (p:xM):Bool→List MT→i5→Prop
  | tup {xs vs}:dN K F p vs→aN K F xs vs→Cv K σ F p false xs []
  | lst {xs vs}:gF K F p vs→aN K F xs vs→Cv K σ F p true xs []
  | own {i xs}:σ[i]?=some (some (.ref p))→Cv K σ F p true xs [(i,xs)]
theorem Cv.at{p:xM}{b:Bool}{xs:List MT}{own:i5}{F0:Hp}(h:Cv K σ F0 p b xs own)(s0:ao F0 F)(s1:ao F H){own':i5}(hh:xS K σ F H own')(hs:∀q∈own,q∈own'):∃vs,aN K F xs vs∧(if b=true then gF K H p vs else dN K H p vs):=by
  cases h with
  | tup h1 h2=>exact⟨_,h2.mono s0,(s0.trans s1).tup h1⟩
  | lst h1 h2=>exact⟨_,h2.mono s0,(s0.trans s1).seq h1⟩
  | @own i xs h1=>
    obtain⟨l,vs,g1,g2,g3⟩:=hh (i,xs) (hs (i,xs) (by simp))
    dsimp only at g1 g3
    rw [h1] at g1;cases g1
    exact⟨vs,g3,.inl (.inl g2)⟩
def Ff(e:En):Rv→Option (Bool × List MT × i5)
  | .d (.tuple xs)=>some (false,xs,[])
  | .d (.list xs)=>some (true,xs,[])
  | .l xs=>some (true,xs,[])
  | .s i=>match e[i]? with
    | some (some (.l xs))=>some (true,xs,[(i,xs)])
    | _=>none
  | _=>none
theorem wx{r:Rv}{v:V}{b:Bool}{xs:List MT}{own:i5}(R:aY K F H σ e)(A:bZ K σ H0 F H e r v)(h:Ff e r=some (b,xs,own)):
    ∃F' p,aY K F' H σ e∧ao F F'∧(∀a,F a=none→H0 a≠none→F' a=none)∧v=.ref p∧Cv K σ F' p b xs own∧keeps own e:=by
  cases r with
  | d x=>
    cases x with
    | tuple ds=>
      cases h
      obtain⟨a,ys,e1,e2,e3⟩:=c9.mp A
      exact⟨F,a,R,ao.refl _,fun _ h _=>h,e1,.tup e2 e3,fun p hp=>by cases hp⟩
    | list ds=>
      cases h
      obtain⟨a,ys,e1,e2,e3⟩:=eI.mp A
      exact⟨F,a,R,ao.refl _,fun _ h _=>h,e1,.lst e2 e3,fun p hp=>by cases hp⟩
    | _=>cases h
  | l ys=>
    cases h
    obtain⟨F',R',s',d',f'⟩:=A.frozen R
    obtain⟨a,ys,e1,e2,e3⟩:=eI.mp d'
    exact⟨F',a,R',s',f',e1,.lst e2 e3,fun p hp=>by cases hp⟩
  | s i=>
    obtain⟨h1,ys,h2⟩:=A
    simp only [Ff,h2] at h
    cases h
    obtain⟨l,vs,e1,e2,e3,e4⟩:=R.own i _ h2
    rw [h1] at e1;cases e1
    exact⟨F,l,R,ao.refl _,fun _ h _=>h,rfl,.own h1,fun p hp=>by simp only [NN] at hp;subst hp;exact h2⟩
theorem xh{p:xM}{xs:List MT}{own:i5}{F0:Hp}(h:Cv K σ F0 p true xs own):AD K σ (H_ K p) xs own F0:=by
  intro F H s0 s1 hh
  obtain⟨vs,d,q⟩:=h.at s0 s1 hh fun _ h=>h
  have q:gF K H p vs:=q
  refine⟨fun i hi=>⟨vs,vs[i]'(by rw [←d.len];exact hi),q,Ot _⟩,fun i hi=>⟨vs,q,by rw [←d.len];exact hi⟩,fun i x v H' hx hy=>?_⟩
  obtain⟨rfl,hy⟩:=hy
  obtain⟨w,g1,g2⟩:=d.get hx
  have e:=hy vs q
  rw [g1] at e;cases e
  exact⟨F,ao.refl _,ao.refl _,s1,fun _ h _=>h,g2⟩
theorem yC{p:xM}{xs:List MT}{own:i5}{F0:Hp}(h:Cv K σ F0 p false xs own):AD K σ (Ia K p) xs own F0:=by
  intro F H s0 s1 hh
  obtain⟨vs,d,q⟩:=h.at s0 s1 hh fun _ h=>h
  have q:dN K H p vs:=q
  refine⟨fun i hi=>⟨vs,vs[i]'(by rw [←d.len];exact hi),q,Ot _⟩,fun i hi=>⟨vs,q,by rw [←d.len];exact hi⟩,fun i x v H' hx hy=>?_⟩
  obtain⟨rfl,hy⟩:=hy
  obtain⟨w,g1,g2⟩:=d.get hx
  have e:=hy vs q
  rw [g1] at e;cases e
  exact⟨F,ao.refl _,ao.refl _,s1,fun _ h _=>h,g2⟩
def bR(lo:Int)(n:Nat):List MT:=(OX n).map fun(i:Nat)=>.int (lo+(i:Int))
theorem uD{lo:Int}{n:Nat}{F0:Hp}:AD K σ (HE lo n) (bR lo n) [] F0:=by
  intro F H s0 s1 hh
  unfold bR
  rw [NC,List.length_range]
  refine⟨fun i hi=>hi,fun i hi=>hi,fun i x v H' hx hy=>?_⟩
  obtain⟨rfl,rfl⟩:=hy
  rw [NF] at hx
  obtain⟨k,h1,rfl⟩:=ML hx
  have h2:=(MN h1).2
  simp at h2
  subst h2
  exact⟨F,ao.refl _,ao.refl _,s1,fun _ h _=>h,bO.mpr rfl⟩
end
inductive HX (K:MS) (own:i5) (σ0:L2.St) (F1:Hp) (P:En→Prop) (G:L2.St→Hp→Hp→En→Prop) (σ:L2.St) (H:Hp):Prop
  | mk {F:Hp} {e:En} (R:aY K F H σ e) (kp:keeps own e) (hσ:∀p∈own,σ[p.1]?=σ0[p.1]?) (sF:ao F1 F) (hf:P e) (q:G σ F H e):HX K own σ0 F1 P G σ H
section
variable{X:Cx}{K:MS}{tg a b:MU}{es:List MU}{fa:FE}{fs:FA}{pos p tp:Pos}{k0:Nat}
def jK(fa:FE):FI:=fun e=>(fa e).bind fun p=>(Ff p.2 p.1).map fun s=>(s.2.1,s.2.2,p.2)
theorem eL(hK:X.K=K)(h:PE X a (fE K fa)):PI X tg a (fI K (jK fa)):=((zo (tg:=tg) hK h).or (BO (tg:=tg) hK h)).mono fun σ H R hh=>by
  obtain⟨F,e,items,own,e',R0,hf,q⟩:=hh
  unfold jK at hf
  obtain⟨⟨r,e1⟩,h1,hf⟩:=MJ hf
  obtain⟨⟨b,xs,ow⟩,h2,hf⟩:=ML hf
  cases hf
  cases b with
  | true=>
    refine .inl ⟨F,e,r,e1,R0,h1,fun F1 H1 v X1 R1 A1=>?_⟩
    obtain⟨F2,p,R2,s2,f2,rfl,sc,kp⟩:=wx R1 A1 h2
    obtain⟨vs,_,c⟩:=sc.at (ao.refl _) R2.sm (R2.held kp) fun _ h=>h
    exact⟨p,rfl,⟨vs,c⟩,q _ F2 H1 (X1.frz s2 f2) R2 kp (xh sc)⟩
  | false=>
    refine .inr ⟨F,e,r,e1,R0,h1,fun F1 H1 v X1 R1 A1=>?_⟩
    obtain⟨F2,p,R2,s2,f2,rfl,sc,kp⟩:=wx R1 A1 h2
    obtain⟨vs,_,c⟩:=sc.at (ao.refl _) R2.sm (R2.held kp) fun _ h=>h
    exact⟨p,rfl,⟨vs,c⟩,q _ F2 H1 (X1.frz s2 f2) R2 kp (yC sc)⟩
def zU(j:Int):Bool:=decide (-1000000≤j)&&decide (j≤1000000)
theorem zV{j:Int}(h:zU j=true): -1000000≤j∧j≤1000000:=by
  unfold zU at h
  rw [NX,decide_eq_true_iff,decide_eq_true_iff] at h
  exact h
def cV(fs:FA):FI:=fun e=>(fs e).bind fun p=>match p.1 with
  | [r]=>(cq r).bind fun j=>if zU j=true then some (bR 0 j.toNat,[],p.2) else none
  | _=>none
theorem dg(hg:Gl X "range")(hm:X.mg "range"=none)(ha:PA X [a] (fA K fs))(hs:Nf [a] X.env=[(false,Nh a X.env)]):PI X tg (.Call (.Name "range" p) [a] [] pos) (fI K (cV fs)):=(xx hg hm ha hs).mono fun σ H R hh=>by
  obtain⟨F,e,items,own,e',R0,hf,q⟩:=hh
  unfold cV at hf
  obtain⟨⟨rs,e1⟩,h1,hf⟩:=MJ hf
  match rs,h1,hf with
  | [r],h1,hf=>
  obtain⟨j,h2,hf⟩:=MJ hf
  split at hf
  case isFalse=>cases hf
  case isTrue hj=>
  cases hf
  refine⟨F,e,_,e1,R0,h1,fun F1 H1 vs X1 R1 A1=>?_⟩
  obtain⟨v,rfl,A2⟩:=rM A1
  have:=zV hj
  exact⟨j,by rw [cy A2 h2],by lia,by lia,q _ F1 H1 X1 R1 (fun _ h=>by cases h) uD⟩
open Classical in
noncomputable def jJ(own:i5)(g:FG)(f:FS):List MT→FS
  | [],e=>some (.nx e)
  | x::r,e=>(g x e).bind fun e1=>(f e1).bind fun fl=>match fl with
    | .nx e2=>if keeps own e2 then jJ own g f r e2 else none
    | .ct e2=>if keeps own e2 then jJ own g f r e2 else none
    | .bk e2=>some (.nx e2)
    | .rt v e2=>some (.rt v e2)
noncomputable def gE(W:List Nat)(fi:FI)(g:FG)(f:FS):FS:=fun e=>(fi e).bind fun p=>if (p.2.1.all fun q=> !W.contains q.1)=true then jJ p.2.1 g f p.1 p.2.2 else none
theorem j_{W1 W2:List Nat}{iter:MU}{body:List Na}{fi:FI}{g:FG}{f:FS}(hp:PassesOwn (Ng X.prog X.w) X.A X.env X.xe)(hc:X.calm=true)(hi:PI X tg iter (fI K fi))(hg:PG X tg (fG K g W1))(hb:i0 X body (fS K f W2))(hs:∀x,PB iter X.env x=pure x):
    PS X (.For tg iter body [] pos) (fS K (gE (W1++W2) fi g f) (W1++W2)):=(zv hp hc hi hg hb hs).mono fun D σ0 H0 hh=>by
  obtain⟨F0,e0,fl,R0,hf,q0⟩:=hh
  unfold gE at hf
  obtain⟨⟨items,own,e1⟩,h1,hf⟩:=MJ hf
  dsimp only at hf
  split at hf
  case isFalse=>cases hf
  case isTrue hW=>
  have hW':∀p∈own,p.1∉W1++W2:=fun p hp=>by
    have:=NQ.mp hW p hp
    simpa using this
  refine⟨F0,e0,items,own,e1,R0,h1,fun J F1 H1 X1 R1 kp ok=>?_⟩
  have s1:∀j,j∈W1→j∈W1++W2:=fun j h=>Of.mpr (.inl h)
  have s2:∀j,j∈W2→j∈W1++W2:=fun j h=>Of.mpr (.inr h)
  have q1:nI K (W1++W2) σ0 F1 H1 e1 D fl:=q0.later (W1:=[]) X1.s (fun j h=>by cases h) fun j h=>h
  refine⟨fun i m σ H=>m=items.length - i∧i≤items.length∧HX K own σ0 F1 (fun e=>jJ own g f (items.drop i) e=some fl) (fun σ F H e=>nI K (W1++W2) σ F H e D fl) σ H,
    ⟨items.length,by simp,ON _,.mk R1 kp (fun _ _=>rfl) (ao.refl _) hf q1⟩,?_⟩
  rintro i m σ H ⟨rfl,hi,⟨R,kp,hσ,sF,hf,q⟩⟩
  rename_i F e
  have held:xS K σ0 F H own:=fun p hp=>by
    obtain⟨l,vs,g1,g2⟩:=R.held kp p hp
    exact⟨l,vs,by rw [←hσ p hp];exact g1,g2⟩
  obtain⟨go,stop,yld⟩:=ok F H sF R.sm held
  by_cases hlt:i < items.length
  · have hd:items.drop i=items[i]::items.drop (i+1):=QT hlt
    rw [hd] at hf
    unfold jJ at hf
    obtain⟨e2,h2,hf⟩:=MJ hf
    obtain⟨fl2,h3,hf⟩:=MJ hf
    refine .inr ⟨go i hlt,HX K own σ0 F1 (fun e=>jJ own g f (items.drop (i+1)) e=some fl) (fun σ F H e=>nI K (W1++W2) σ F H e D fl),
      fun σ' H' r=>⟨items.length - (i+1),by lia,rfl,hlt,r⟩,fun x H' hy=>?_⟩
    obtain⟨F',sH,sF',sm',fz,hx⟩:=yld i items[i] x H' (Ot hlt) hy
    obtain⟨R',X'⟩:=R.step sH sF' sm' fz
    refine⟨F',e,items[i],e2,R',hx,h2,fun σ2 x2 R2=>⟨F',e2,fl2,R2,h3,?_⟩⟩
    have q2:nI K (W1++W2) σ2 F' H' e2 D fl:=(q.later (W1:=[]) (W2:=W1++W2) X'.s (fun j h=>by cases h) fun j h=>h).later x2 s1 fun j h=>h
    have w2:∀p∈own,σ2[p.1]?=σ0[p.1]?:=fun p hp=>(x2.wr p.1 fun z=>hW' p hp (s1 _ z)).trans (hσ p hp)
    cases fl2 with
    | nx e3=>
      intro F3 H3 σ3 x3 R3
      dsimp only at hf
      split at hf
      case isFalse=>cases hf
      case isTrue kp3=>
      exact .mk R3 kp3 (fun p hp=>(x3.wr p.1 fun z=>hW' p hp (s2 _ z)).trans (w2 p hp)) (sF.trans (sF'.trans x3.sf)) hf (q2.later x3 s2 fun j h=>h)
    | ct e3=>
      intro F3 H3 σ3 x3 R3
      dsimp only at hf
      split at hf
      case isFalse=>cases hf
      case isTrue kp3=>
      exact .mk R3 kp3 (fun p hp=>(x3.wr p.1 fun z=>hW' p hp (s2 _ z)).trans (w2 p hp)) (sF.trans (sF'.trans x3.sf)) hf (q2.later x3 s2 fun j h=>h)
    | bk e3=>
      cases hf
      exact fun F3 H3 σ3 x3 R3=>q2 F3 H3 σ3 (x3.mono s2) R3
    | rt r e3=>
      cases hf
      exact fun F3 H3 σ3 v x3 R3 A3=>q2 F3 H3 σ3 v (x3.mono s2) R3 A3
  · have hd:items.drop i=[]:=QU (by lia)
    rw [hd] at hf
    cases hf
    exact .inl ⟨stop i (by lia),q F H σ cY.refl R⟩
end
def xR:Option (Option Sv)→Bool
  | some (some (.l _))=>true
  | _=>false
theorem A6{s:Option (Option Sv)}:xR s=true↔ ∃xs,s=some (some (.l xs)):=by
  unfold xR
  split
  · simp
  · rename_i h
    constructor
    · intro z;cases z
    · rintro⟨xs,rfl⟩;exact absurd rfl (h xs)
def o5(pos:Nat→Option Nat)(ei e:En):En:=e.mapIdx fun i s=>match s with
  | some (.l xs)=>match pos i with
    | some k=>(ei[k]?).join
    | none=>some (.l xs)
  | s=>s
theorem bV{pos:Nat→Option Nat}{ei e:En}{i:Nat}:(o5 pos ei e)[i]?=(e[i]?).map fun s=>match s with
  | some (.l xs)=>match pos i with
    | some k=>(ei[k]?).join
    | none=>some (.l xs)
  | s=>s:=by unfold o5;rw [List.getElem?_mapIdx]
structure rY (σ:L2.St) (e:En) (σi:L2.St) (ei:En) (pos:Nat→Option Nat):Prop where
  a:∀(i k:Nat) (xs:List MT),e[i]?=some (some (.l xs))→pos i=some k→σi[k]?=σ[i]?
  b:∀(k:Nat) (ys:List MT),ei[k]?=some (some (.l ys))→∃(i:Nat) (xs:List MT),e[i]?=some (some (.l xs))∧pos i=some k∧σi[k]?=σ[i]?
section
variable{K:MS}{σ σi σi':L2.St}{F H F' H':Hp}{e ei ei':En}{pos:Nat→Option Nat}
def FL(e:En):Prop:=∀(i:Nat) (xss:List (List MT)),e[i]?≠some (some (.n xss))
theorem rY.own(s:rY σ e σi ei pos)(hn:FL ei){a:xM}{H H':Hp}(h:bw σi ei H a):∃(i k:Nat) (xs:List MT),e[i]?=some (some (.l xs))∧pos i=some k∧σ[i]?=some (some (.ref a)):=by
  obtain⟨k,⟨ys,h1,h2⟩ | ⟨xss,_,_,h1,_⟩⟩:=h
  · obtain⟨i,xs,g1,g2,g3⟩:=s.b k ys h1
    exact⟨i,k,xs,g1,g2,by rw [←g3];exact h2⟩
  · exact absurd h1 (hn k xss)
theorem tZ(R:aY K F H σ e)(s:rY σ e σi ei pos)(hnn:FL ei)(sf:ao F F')(dom:∀a,H' a=none→H a=none)(fr:∀a vs,F a=none→H a=some (.lst vs)→¬bw σi ei H a→F' a=none)(lst:∀a vs,H a=some (.lst vs)→∃vs',H' a=some (.lst vs'))
    (tmp:∀a o,H a=some o→¬bw σi ei H a→H' a=some o)(fd:∀a (m:DI),F a=none→H a=some m.1→¬bw σi ei H a→F' a=none)(R':aY K F' H' σi' ei')(hσ:∀(i k:Nat) (xs:List MT),e[i]?=some (some (.l xs))→pos i=some k→σi'[k]?=σi[k]?)(hsh:∀(i k:Nat) (xs:List MT),e[i]?=some (some (.l xs))→pos i=some k→∃ys,ei'[k]?=some (some (.l ys))):
    aY K F' H' σ (o5 pos ei' e)∧cS σ F H e F' H' (o5 pos ei' e)∧∀a,bw σ (o5 pos ei' e) H' a→bw σ e H a:=by
  have shp:∀i:Nat,(∃xs,(o5 pos ei' e)[i]?=some (some (.l xs)))↔ (∃xs,e[i]?=some (some (.l xs))):=by
    intro i
    rw [bV]
    match h:e[i]? with
    | none=>simp
    | some none=>simp
    | some (some (.d x))=>simp
    | some (some (.n x))=>simp
    | some (some (.l xs))=>
      simp only [NZ]
      constructor
      · intro _;exact⟨xs,rfl⟩
      · intro _
        match hp:pos i with
        | none=>exact⟨xs,rfl⟩
        | some k=>
          obtain⟨ys,g⟩:=hsh i k xs h hp
          exact⟨ys,by show some ((ei'[k]?).join)=_;rw [g];rfl⟩
  have oth:∀(i:Nat) (s:Sv),(∀xs,s≠.l xs)→((o5 pos ei' e)[i]?=some (some s)↔ e[i]?=some (some s)):=by
    intro i s hs
    constructor
    · intro h
      rw [bV] at h
      match h1:e[i]?,h with
      | some (some (.d y)),h=>exact h
      | some (some (.n y)),h=>exact h
      | some (some (.l ys)),h=>
        simp only [NZ,Pf] at h
        match hp:pos i,h with
        | none,h=>cases h;exact absurd rfl (hs _)
        | some k,h=>
          obtain⟨zs,g⟩:=hsh i k ys h1 hp
          change (ei'[k]?).join=_ at h
          rw [g] at h;cases h;exact absurd rfl (hs _)
      | some none,h=>simp at h
      | none,h=>simp at h
    · intro h
      rw [bV,h]
      cases s with
      | d y=>rfl
      | n y=>rfl
      | l y=>exact absurd rfl (hs y)
  have out:∀i a,Fp σ e H i a→(∀k xs,e[i]?=some (some (.l xs))→pos i≠some k)→¬bw σi ei H a:=by
    intro i a hi hp z
    obtain⟨j,k,ws,d1,d2,d3⟩:=s.own hnn (H':=H') z
    have:i=j:=R.fp i j a hi (.inl ⟨ws,d1,d3⟩)
    subst this
    exact hp k ws d1 d2
  have keep:∀i a o,Fp σ e H i a→(∀k xs,e[i]?=some (some (.l xs))→pos i≠some k)→H a=some o→H' a=some o:=fun i a o hi hp ha=>tmp a o ha (out i a hi hp)
  have sown:∀a,bw σi ei H a→bw σ e H a:=fun a z=>by
    obtain⟨j,k,ws,d1,d2,d3⟩:=s.own hnn (H':=H') z
    exact⟨j,.inl ⟨ws,d1,d3⟩⟩
  have fs:∀i a,Fp σ (o5 pos ei' e) H' i a↔ Fp σ e H i a:=by
    intro i a
    have key:∀xss l,e[i]?=some (some (.n xss))→σ[i]?=some (some (.ref l))→H' l=H l:=fun xss l h1 h2=>by
      obtain⟨l',bs,g1,g2,g3,_⟩:=R.nst i xss h1
      rw [h2] at g1;cases g1
      rw [g3]
      exact keep i l _ (.inr ⟨xss,l,bs,h1,h2,g3,.inl rfl⟩) (fun k xs z=>by rw [h1] at z;cases z) g3
    constructor
    · rintro(⟨xs,h1,h2⟩ | ⟨xss,l,bs,h1,h2,h3,h4⟩)
      · obtain⟨ys,h⟩:=(shp i).mp ⟨xs,h1⟩
        exact .inl ⟨ys,h,h2⟩
      · have h1':=(oth i (.n xss) (fun _ z=>nomatch z)).mp h1
        exact .inr ⟨xss,l,bs,h1',h2,by rw [←key xss l h1' h2];exact h3,h4⟩
    · rintro(⟨xs,h1,h2⟩ | ⟨xss,l,bs,h1,h2,h3,h4⟩)
      · obtain⟨ys,h⟩:=(shp i).mpr ⟨xs,h1⟩
        exact .inl ⟨ys,h,h2⟩
      · exact .inr ⟨xss,l,bs,(oth i (.n xss) (fun _ z=>nomatch z)).mpr h1,h2,by rw [key xss l h1 h2];exact h3,h4⟩
  refine⟨⟨R'.sm,?_,fun i x h=>?_,fun i xs h=>?_,fun i xss h=>?_,fun i j a h1 h2=>R.fp i j a ((fs i a).mp h1) ((fs j a).mp h2)⟩,⟨sf,dom,fun a vs h1 h2 n=>fr a vs h1 h2 fun z=>n (sown a z),lst,fun a o h n=>tmp a o h fun z=>n (sown a z),shp,fun a ⟨i,h⟩=>.inl ⟨i,(fs i a).mp h⟩,fun a m h1 h2 n=>fd a m h1 h2 fun z=>n (sown a z)⟩,fun a ⟨i,h⟩=>⟨i,(fs i a).mp h⟩⟩
  · unfold o5;rw [List.length_mapIdx];exact R.len
  · obtain⟨v,g1,g2⟩:=R.dat i x ((oth i (.d x) (fun _ z=>nomatch z)).mp h)
    exact⟨v,g1,DA.mono sf g2⟩
  · obtain⟨ys,h1⟩:=(shp i).mp ⟨xs,h⟩
    obtain⟨l,vs,g1,g2,g3,g4⟩:=R.own i ys h1
    rw [bV,h1] at h
    simp only [NZ,Pf] at h
    match hp:pos i,h with
    | none,h=>
      cases h
      have np:∀k xs,e[i]?=some (some (Sv.l xs))→pos i≠some k:=fun k xs _ z=>by rw [hp] at z;cases z
      have fi:Fp σ e H i l:=.inl ⟨_,h1,g1⟩
      exact⟨l,vs,g1,fr l vs g2 g3 (out i l fi np),keep i l _ fi np g3,g4.mono sf⟩
    | some k,h=>
      obtain⟨zs,c1⟩:=hsh i k ys h1 hp
      change (ei'[k]?).join=_ at h
      rw [c1] at h;cases h
      obtain⟨l',vs',d1,d2,d3,d4⟩:=R'.own k _ c1
      rw [hσ i k ys h1 hp,s.a i k ys h1 hp] at d1
      exact⟨l',vs',d1,d2,d3,d4⟩
  · have h1:=(oth i (.n xss) (fun _ z=>nomatch z)).mp h
    obtain⟨l,bs,g1,g2,g3,g4,g5,g6,g7⟩:=R.nst i xss h1
    have np:∀k xs,e[i]?=some (some (Sv.l xs))→pos i≠some k:=fun k xs z=>by rw [h1] at z;cases z
    have fi:Fp σ e H i l:=.inr ⟨xss,l,bs,h1,g1,g3,.inl rfl⟩
    refine⟨l,bs,g1,fr l _ g2 g3 (out i l fi np),keep i l _ fi np g3,g4,g5,g6,fun k b ys q1 q2=>?_⟩
    obtain⟨c1,us,c2,c3⟩:=g7 k b ys q1 q2
    have fb:Fp σ e H i b:=.inr ⟨xss,l,bs,h1,g1,g3,.inr (MR q1)⟩
    exact⟨fr b _ c1 c2 (out i b fb np),us,keep i b _ fb np c2,c3.mono sf⟩
end
def b_(e:En):List Rv→Option (List Sv)
  | []=>some []
  | .d x::r=>(b_ e r).map (.d x::·)
  | .l xs::r=>(b_ e r).map (.d (.list xs)::·)
  | .s i::r=>match e[i]? with
    | some (some (.l xs))=>(b_ e r).map (.l xs::·)
    | _=>none
def aH:List Rv→List Nat
  | []=>[]
  | .s i::r=>i::aH r
  | .d _::r=>aH r
  | .l _::r=>aH r
def j9(rs:List Rv)(i:Nat):Option Nat:=rs.findIdx? fun r=>match r with
  | .s j=>j==i
  | _=>false
def noS:Rv→Prop
  | .s _=>False
  | _=>True
abbrev FM:=List Sv→Option (Rv × List Sv)
def di(K:MS)(n:Nat)(m:FM):Sp:=fun vs H Q _=>vs.length=n∧∃F as r as',aY K F H (vs.map some) (as.map some)∧FL (as.map some)∧m as=some (r,as')∧noS r∧
  ∀F' H' v,cS (vs.map some) F H (as.map some) F' H' (as'.map some)→aY K F' H' (vs.map some) (as'.map some)→bZ K (vs.map some) H F' H' (as'.map some) r v→Q v H'
def bf:List Rv→List Sv→Bool
  | [],[]=>true
  | .s _::r,.l _::s=>bf r s
  | .d _::r,_::s=>bf r s
  | .l _::r,_::s=>bf r s
  | _,_=>false
def rj:Rv→Bool
  | .s _=>false
  | _=>true
def du:List Rv→List Sv→En→En
  | .s i::r,.l ys::s,e=>du r s (e.set i (some (.l ys)))
  | .d _::r,_::s,e=>du r s e
  | .l _::r,_::s,e=>du r s e
  | _,_,e=>e
def cR(n:Nat)(m:FM)(fs:FA):FE:=fun e=>(fs e).bind fun p=>(b_ p.2 p.1).bind fun as=>(m as).bind fun z=>if p.1.length=n∧(aH p.1).Nodup∧bf p.1 z.2=true∧rj z.1=true then some (z.1,du p.1 z.2 p.2) else none
theorem iD:∀{rs:List Rv} {as:List Sv},bf rs as=true→∀(k i:Nat),rs[k]?=some (.s i)→∃ys,as[k]?=some (.l ys)
  | [],[],_,k,i,h=>by simp at h
  | .s j::r,.l ys::s,h,k,i,hk=>by
    cases k with
    | zero=>exact⟨ys,rfl⟩
    | succ k=>simpa using iD (rs:=r) (as:=s) (by simpa [bf] using h) k i (by simpa using hk)
  | .d x::r,y::s,h,k,i,hk=>by
    cases k with
    | zero=>simp at hk
    | succ k=>simpa using iD (rs:=r) (as:=s) (by simpa [bf] using h) k i (by simpa using hk)
  | .l x::r,y::s,h,k,i,hk=>by
    cases k with
    | zero=>simp at hk
    | succ k=>simpa using iD (rs:=r) (as:=s) (by simpa [bf] using h) k i (by simpa using hk)
  | .s _::_,.d _::_,h,_,_,_=>by simp [bf] at h
  | .s _::_,[],h,_,_,_=>by simp [bf] at h
  | .d _::_,[],h,_,_,_=>by simp [bf] at h
  | .l _::_,[],h,_,_,_=>by simp [bf] at h
theorem lN{r0:Rv}{rs:List Rv}{i:Nat}:j9 (r0::rs) i=if (match r0 with | .s j=>j==i | _=>false)=true then some 0 else(j9 rs i).map (· +1):=by
  unfold j9;rw [List.findIdx?_cons]
theorem lO{rs:List Rv}{i k:Nat}(h:j9 rs i=some k):rs[k]?=some (.s i):=by
  unfold j9 at h
  rw [Rj] at h
  obtain⟨hk,h1,_⟩:=h
  rw [Ot hk]
  split at h1
  · rename_i heq
    rw [heq]
    have:=eq_of_beq h1
    rw [this]
  · cases h1
theorem e6:∀{rs:List Rv} {i:Nat},i∈aH rs↔ Rv.s i∈rs
  | [],i=>by simp [aH]
  | .s j::r,i=>by simp [aH,e6 (rs:=r)]
  | .d x::r,i=>by simp [aH,e6 (rs:=r)]
  | .l x::r,i=>by simp [aH,e6 (rs:=r)]
theorem f9:∀{rs:List Rv} {i k j:Nat},(aH rs).Nodup→rs[k]?=some (.s i)→rs[j]?=some (.s i)→k=j
  | [],i,k,j,_,h,_=>by simp at h
  | .s m::r,i,k,j,hn,h1,h2=>by
    simp only [aH,OZ] at hn
    cases k with
    | zero=>
      simp at h1;subst h1
      cases j with
      | zero=>rfl
      | succ j=>exact absurd (e6.mpr (MR (by simpa using h2))) hn.1
    | succ k=>
      cases j with
      | zero=>
        simp at h2;subst h2
        exact absurd (e6.mpr (MR (by simpa using h1))) hn.1
      | succ j=>
        have:=f9 (rs:=r) (i:=i) (k:=k) (j:=j) hn.2 (by simpa using h1) (by simpa using h2)
        lia
  | .d x::r,i,k,j,hn,h1,h2=>by
    cases k with
    | zero=>simp at h1
    | succ k=>
      cases j with
      | zero=>simp at h2
      | succ j=>
        have:=f9 (rs:=r) (i:=i) (k:=k) (j:=j) (by simpa [aH] using hn) (by simpa using h1) (by simpa using h2)
        lia
  | .l x::r,i,k,j,hn,h1,h2=>by
    cases k with
    | zero=>simp at h1
    | succ k=>
      cases j with
      | zero=>simp at h2
      | succ j=>
        have:=f9 (rs:=r) (i:=i) (k:=k) (j:=j) (by simpa [aH] using hn) (by simpa using h1) (by simpa using h2)
        lia
theorem zr{rs:List Rv}{i:Nat}(h:i∉aH rs):j9 rs i=none:=by
  unfold j9
  rw [Qx]
  intro r hr
  cases r with
  | d x=>rfl
  | l x=>rfl
  | s j=>
    have:j≠i:=fun z=>h (by rw [←z];exact e6.mpr hr)
    simpa using this
theorem mS:∀{rs:List Rv} {as:List Sv} {e:En},(aH rs).Nodup→bf rs as=true→(∀j∈aH rs,∃xs,e[j]?=some (some (.l xs)))→du rs as e=o5 (j9 rs) (as.map some) e
  | [],[],e,_,_,_=>by
    refine Pu fun i=>?_
    rw [bV]
    have:j9 [] i=none:=rfl
    rw [this]
    simp only [du]
    match e[i]? with
    | none=>rfl
    | some none=>rfl
    | some (some (.d x))=>rfl
    | some (some (.l x))=>rfl
    | some (some (.n x))=>rfl
  | .d x::r,y::s,e,hn,hl,hs=>by
    rw [show du (.d x::r) (y::s) e=du r s e from rfl,mS (by simpa [aH] using hn) (by simpa [bf] using hl) (fun j hj=>hs j (by simpa [aH] using hj))]
    refine Pu fun i=>?_
    rw [bV,bV,lN]
    cases j9 r i<;>simp
  | .l x::r,y::s,e,hn,hl,hs=>by
    rw [show du (.l x::r) (y::s) e=du r s e from rfl,mS (by simpa [aH] using hn) (by simpa [bf] using hl) (fun j hj=>hs j (by simpa [aH] using hj))]
    refine Pu fun i=>?_
    rw [bV,bV,lN]
    cases j9 r i<;>simp
  | .s k::r,.l ys::s,e,hn,hl,hs=>by
    simp only [aH,OZ] at hn
    obtain⟨xs,hk⟩:=hs k (by simp [aH])
    have hlt:k < e.length:=(MN hk).1
    rw [show du (.s k::r) (.l ys::s) e=du r s (e.set k (some (.l ys))) from rfl,mS hn.2 (by simpa [bf] using hl) (fun j hj=>by
      have z:k≠j:=fun z=>hn.1 (by rw [z];exact hj)
      rw [Nq z]
      exact hs j (by simp [aH,hj]))]
    refine Pu fun i=>?_
    rw [bV,bV,lN]
    by_cases z:k=i
    · subst z
      rw [Od hlt,hk,zr hn.1]
      simp
    · rw [Nq z]
      have:((match (Rv.s k) with | .s j=>j==i | _=>false)=true)=False:=by simp [z]
      simp only [this,if_false]
      cases j9 r i<;>simp
  | .s _::_,.d _::_,_,_,h,_=>by simp [bf] at h
  | .s _::_,.n _::_,_,_,h,_=>by simp [bf] at h
  | .s _::_,[],_,_,h,_=>by simp [bf] at h
  | .d _::_,[],_,_,h,_=>by simp [bf] at h
  | .l _::_,[],_,_,h,_=>by simp [bf] at h
  | [],_::_,_,_,h,_=>by simp [bf] at h
theorem eQ{e:En}:∀{rs:List Rv} {as:List Sv},b_ e rs=some as→∀j∈aH rs,∃xs,e[j]?=some (some (.l xs))
  | [],_,_,j,h=>by simp [aH] at h
  | .d x::rs,as,q,j,h=>by
    obtain⟨as',q1,rfl⟩:=ML q
    exact eQ q1 j (by simpa [aH] using h)
  | .l x::rs,as,q,j,h=>by
    obtain⟨as',q1,rfl⟩:=ML q
    exact eQ q1 j (by simpa [aH] using h)
  | .s k::rs,as,q,j,h=>by
    unfold b_ at q
    match he:e[k]?,q with
    | some (some (.l xs)),q=>
      obtain⟨as',q1,rfl⟩:=ML q
      simp only [aH,Oz] at h
      rcases h with rfl | h
      · exact⟨xs,he⟩
      · exact eQ q1 j h
theorem kh{e:En}:∀{rs:List Rv} {as:List Sv} {k i:Nat},b_ e rs=some as→rs[k]?=some (.s i)→∃xs,as[k]?=some (.l xs)
  | [],_,k,i,_,h=>by simp at h
  | .d x::rs,as,k,i,q,h=>by
    obtain⟨as',q1,rfl⟩:=ML q
    cases k with
    | zero=>simp at h
    | succ k=>simpa using kh (k:=k) (i:=i) q1 (by simpa using h)
  | .l x::rs,as,k,i,q,h=>by
    obtain⟨as',q1,rfl⟩:=ML q
    cases k with
    | zero=>simp at h
    | succ k=>simpa using kh (k:=k) (i:=i) q1 (by simpa using h)
  | .s j::rs,as,k,i,q,h=>by
    unfold b_ at q
    match he:e[j]?,q with
    | some (some (.l xs)),q=>
      obtain⟨as',q1,rfl⟩:=ML q
      cases k with
      | zero=>exact⟨xs,rfl⟩
      | succ k=>simpa using kh (k:=k) (i:=i) q1 (by simpa using h)
section
variable{X:Cx}{K:MS}{σ:L2.St}{H0 H:Hp}{e:En}
theorem mO:∀{rs:List Rv} {vs:List V} {as:List Sv} {F:Hp},aY K F H σ e→dr K σ H0 F H e rs vs→b_ e rs=some as→
    ∃F',aY K F' H σ e∧ao F F'∧(∀a,F a=none→H0 a≠none→F' a=none)∧vs.length=as.length∧rs.length=as.length∧
      (∀(k:Nat) (x:MT),as[k]?=some (.d x)→∃v,vs[k]?=some v∧DA K F' x v)∧∀(k:Nat) (xs:List MT),as[k]?=some (.l xs)→∃i,rs[k]?=some (.s i)∧e[i]?=some (some (.l xs))∧∃v,vs[k]?=some v∧σ[i]?=some (some v)
  | [],vs,as,F,R,h,q=>by
    cases q
    have h':vs=[]:=h
    subst h'
    exact⟨F,R,ao.refl _,fun _ h _=>h,rfl,rfl,fun k x h=>by simp at h,fun k x h=>by simp at h⟩
  | .d x::rs,_,as,F,R,h,q=>by
    obtain⟨v,ws,rfl,h1,h2⟩:=h
    obtain⟨as',q1,rfl⟩:=ML q
    obtain⟨F',R',s',f',l1,l2,d',o'⟩:=mO R h2 q1
    refine⟨F',R',s',f',by simp [l1],by simp [l2],fun k y hk=>?_,fun k ys hk=>?_⟩
    · cases k with
      | zero=>simp at hk;subst hk;exact⟨v,rfl,DA.mono s' h1⟩
      | succ k=>simpa using d' k y (by simpa using hk)
    · cases k with
      | zero=>simp at hk
      | succ k=>simpa using o' k ys (by simpa using hk)
  | .l xs::rs,_,as,F,R,h,q=>by
    obtain⟨v,ws,rfl,h1,h2⟩:=h
    obtain⟨as',q1,rfl⟩:=ML q
    obtain⟨F',R',s',f',l1,l2,d',o'⟩:=mO R h2 q1
    have key:∃F2,aY K F2 H σ e∧ao F' F2∧(∀a,F' a=none→H0 a≠none→F2 a=none)∧DA K F2 (.list xs) v:=by
      obtain⟨l,us,rfl,g1,g2,g3,g4,g5⟩:=h1
      cases hl:F' l with
      | none=>
        have h1':bZ K σ H0 F' H e (.l xs) (.ref l):=⟨l,us,rfl,g1,hl,g3,aN.mono s' g4,g5⟩
        obtain⟨F2,R2,s2,d2,f2⟩:=h1'.frozen R'
        exact⟨F2,R2,s2,f2,d2⟩
      | some o=>
        have:=R'.sm _ _ hl
        rw [g3] at this;cases this
        exact⟨F',R',ao.refl _,fun _ h _=>h,eI.mpr ⟨l,us,rfl,.inl (.inl hl),aN.mono s' g4⟩⟩
    obtain⟨F2,R2,s2,f2,d2⟩:=key
    refine⟨F2,R2,s'.trans s2,fun a ha hn=>f2 a (f' a ha hn) hn,by simp [l1],by simp [l2],fun k y hk=>?_,fun k ys hk=>?_⟩
    · cases k with
      | zero=>simp at hk;subst hk;exact⟨v,rfl,d2⟩
      | succ k=>
        obtain⟨u,c1,c2⟩:=d' k y (by simpa using hk)
        exact⟨u,by simpa using c1,DA.mono s2 c2⟩
    · cases k with
      | zero=>simp at hk
      | succ k=>simpa using o' k ys (by simpa using hk)
  | .s i::rs,_,as,F,R,h,q=>by
    obtain⟨v,ws,rfl,h1,h2⟩:=h
    unfold b_ at q
    match he:e[i]?,q with
    | some (some (.l xs)),q=>
      obtain⟨as',q1,rfl⟩:=ML q
      obtain⟨F',R',s',f',l1,l2,d',o'⟩:=mO R h2 q1
      refine⟨F',R',s',f',by simp [l1],by simp [l2],fun k y hk=>?_,fun k ys hk=>?_⟩
      · cases k with
        | zero=>simp at hk
        | succ k=>simpa using d' k y (by simpa using hk)
      · cases k with
        | zero=>simp at hk;subst hk;exact⟨i,rfl,he,v,rfl,h1.1⟩
        | succ k=>simpa using o' k ys (by simpa using hk)
theorem eS{α:Type}{l:List α}{k:Nat}{x:α}:(l.map some)[k]?=some (some x)↔ l[k]?=some x:=by
  rw [NF]
  cases l[k]?<;>simp
theorem bZ.noS{σ':L2.St}{e':En}{F H:Hp}{r:Rv}{v:V}(h:bZ K σ' H0 F H e' r v)(n:L2.noS r)(ho:∀a,bw σ e H a→H0 a≠none):bZ K σ H0 F H e r v:=by
  cases r with
  | d x=>exact h
  | l xs=>
    obtain⟨l,vs,e1,h1,h2,h3,h4,_⟩:=h
    exact⟨l,vs,e1,h1,h2,h3,h4,fun z=>ho l z h1⟩
  | s i=>exact absurd n (by simp [L2.noS])
theorem ie:∀{rs:List Rv} {as:List Sv},b_ e rs=some as→FL (as.map some)
  | [],_,q=>by cases q;intro i xss h;simp at h
  | .d x::rs,as,q=>by
    obtain⟨as',q1,rfl⟩:=ML q
    have ih:=ie q1
    intro i xss h
    cases i with
    | zero=>simp at h
    | succ i=>exact ih i xss (by simpa using h)
  | .l x::rs,as,q=>by
    obtain⟨as',q1,rfl⟩:=ML q
    have ih:=ie q1
    intro i xss h
    cases i with
    | zero=>simp at h
    | succ i=>exact ih i xss (by simpa using h)
  | .s j::rs,as,q=>by
    unfold b_ at q
    match he:e[j]?,q with
    | some (some (.l xs)),q=>
      obtain⟨as',q1,rfl⟩:=ML q
      have ih:=ie q1
      intro i xss h
      cases i with
      | zero=>simp at h
      | succ i=>exact ih i xss (by simpa using h)
theorem Fw{n:Nat}{m:FM}{fs:FA}{Q:VK}{E:XK}(h:fE K (cR n m fs) σ H Q):qr (di K n m) [] E (fA K fs) σ H Q:=by
  obtain⟨F,e,z,e',R,hf,q⟩:=h
  unfold cR at hf
  obtain⟨⟨rs,e1⟩,h1,hf⟩:=MJ hf
  obtain⟨as,h2,hf⟩:=MJ hf
  obtain⟨⟨r,as'⟩,h3,hf⟩:=MJ hf
  split at hf
  case isFalse=>cases hf
  case isTrue hc=>
  obtain⟨c1,c2,c3,c4⟩:=hc
  cases hf
  refine⟨F,e,rs,e1,R,h1,fun F1 H1 vs X1 R1 A1=>?_⟩
  obtain⟨F2,R2,s2,f2,l1,l2,d2,o2⟩:=mO R1 A1 h2
  have X2:=X1.frz s2 f2
  rw [OC]
  have hn:L2.noS r:=by
    cases r with
    | d x=>trivial
    | l x=>trivial
    | s i=>cases c4
  have nN:=ie h2
  have RA:aY K F2 H1 (vs.map some) (as.map some):=by
    refine⟨R2.sm,by simp [l1],fun k x hk=>?_,fun k xs hk=>?_,fun k xss hk=>absurd hk (nN k xss),fun k j l f1 f2=>?_⟩
    · obtain⟨v,g1,g2⟩:=d2 k x (eS.mp hk)
      exact⟨v,eS.mpr g1,g2⟩
    · obtain⟨i,g1,g2,v,g3,g4⟩:=o2 k xs (eS.mp hk)
      obtain⟨l,us,k1,k2,k3,k4⟩:=R2.own i xs g2
      rw [g4] at k1;cases k1
      exact⟨l,us,eS.mpr g3,k2,k3,k4⟩
    · obtain⟨xs,g1,g3⟩:=f1.resolve_right fun⟨xss,_,_,z,_⟩=>nN k xss z
      obtain⟨ys,g2,g4⟩:=f2.resolve_right fun⟨xss,_,_,z,_⟩=>nN j xss z
      obtain⟨i1,a1,a2,v1,a3,a4⟩:=o2 k xs (eS.mp g1)
      obtain⟨i2,b1,b2,v2,b3,b4⟩:=o2 j ys (eS.mp g2)
      have e1:=eS.mp g3
      have e2:=eS.mp g4
      rw [a3] at e1;cases e1
      rw [b3] at e2;cases e2
      have:i1=i2:=R2.inj i1 i2 xs ys l a2 b2 a4 b4
      subst this
      exact f9 c2 a1 b1
  have sub:rY σ e1 (vs.map some) (as.map some) (j9 rs):=by
    refine⟨fun i k xs g1 g2=>?_,fun k ys g1=>?_⟩
    · have g3:=lO g2
      obtain⟨zs,hs⟩:=kh h2 g3
      obtain⟨i',a1,a2,v,a3,a4⟩:=o2 k zs hs
      rw [g3] at a1;cases a1
      rw [eS.mpr a3,a4]
    · obtain⟨i,a1,a2,v,a3,a4⟩:=o2 k ys (eS.mp g1)
      refine⟨i,ys,a2,?_,by rw [eS.mpr a3,a4]⟩
      cases hp:j9 rs i with
      | none=>
        unfold j9 at hp
        rw [Qx] at hp
        have:=hp _ (MR a1)
        simp at this
      | some j=>rw [f9 c2 (lO hp) a1]
  refine⟨by rw [l1,←l2];exact c1,F2,as,r,as',RA,nN,h3,hn,fun F' H' v X3 R3 A3=>?_⟩
  obtain⟨R4,X4,o4⟩:=tZ R2 sub nN X3.sf X3.dom X3.fr X3.lst X3.tmp X3.fd R3 (fun _ _ _ _ _=>rfl) fun i k xs g1 g2=>by
    obtain⟨ys,g3⟩:=iD c3 k i (lO g2)
    exact⟨ys,eS.mpr g3⟩
  have hb:=mS (e:=e1) c2 c3 (eQ h2)
  rw [←hb] at R4 X4 o4
  exact q F' H' v (X2.trans X4) R4 ((A3.noS hn fun a z=>R2.ownH a (o4 a z)).weak X2.dom)
theorem bA{x:Str}{st:Na}{f:xM}{fd:Nj}{ps:List Str}{k n:Nat}{m:FM}{a:MU}{es:List MU}{fs:FA}{p pos:Pos}(h:dm X.K X.mg x st f fd ps)(G:aA X.prog X.w X.K X.mg X.base bY k f fd ps (di K n m))(hr:bI k X.A)(ha:PA X (a::es) (fA K fs))
    (hg:Gl X x)(hdb:(x==("__debug__":Str))=false)(he:Nf (a::es) X.env=(false,Nh a X.env)::Nf es X.env)(hpl:(Nr pos (Nf es X.env)).any (·.1)=false):
    PE X (.Call (.Name x p) (a::es) [] pos) (fE K (cR n m fs)):=(EF h G hr ha hg hdb he hpl).mono fun _ _ _ h=>Fw h
def rW:List Sv→En→Option (List Sv)
  | [],_=>some []
  | .d x::r,e=>(rW r e.tail).map (.d x::·)
  | .l _::r,e=>match e.head? with
    | some (some (.l ys))=>(rW r e.tail).map (.l ys::·)
    | _=>none
  | .n _::_,_=>none
def qR(n:Nat)(e:En):Rv→Option Rv
  | .s i=>if n≤i then match e[i]? with
      | some (some (.l xs))=>some (.l xs)
      | _=>none
    else none
  | r=>some r
def jN(W:List Nat)(as:List Sv):Bool:=W.all fun j=>match as[j]? with
  | some (.l _)=>false
  | _=>true
def h8(n k:Nat)(W:List Nat)(f:FS):FM:=fun as=>if as.length=n∧jN W as=true then(f (as.map some++Nk k none)).bind fun fl=>match fl with
    | .rt r e=>(qR n e r).bind fun r'=>(rW as e).map fun as'=>(r',as')
    | .nx e=>(rW as e).map fun as'=>(.d .none,as')
    | _=>none
  else none
theorem mY:∀{as as':List Sv} {e:En},rW as e=some as'→as'.length=as.length∧(∀(j:Nat) (x:MT),as'[j]?=some (.d x)↔ as[j]?=some (.d x))∧(∀(j:Nat) (ys:List MT),as'[j]?=some (.l ys)→(∃xs,as[j]?=some (.l xs))∧e[j]?=some (some (.l ys)))∧∀(j:Nat) (xs:List MT),as[j]?=some (.l xs)→∃ys,as'[j]?=some (.l ys)
  | [],_,e,h=>by cases h;simp
  | .d x::r,_,e,h=>by
    obtain⟨s,h1,rfl⟩:=ML h
    obtain⟨g1,g2,g3,g4⟩:=mY h1
    refine⟨by simp [g1],fun j y=>?_,fun j ys hj=>?_,fun j xs hj=>?_⟩
    · cases j with
      | zero=>simp
      | succ j=>simpa using g2 j y
    · cases j with
      | zero=>simp at hj
      | succ j=>
        obtain⟨c1,c2⟩:=g3 j ys (by simpa using hj)
        refine⟨by simpa using c1,?_⟩
        rw [List.getElem?_tail] at c2
        exact c2
    · cases j with
      | zero=>simp at hj
      | succ j=>simpa using g4 j xs (by simpa using hj)
  | .l xs::r,_,e,h=>by
    unfold rW at h
    match he:e.head?,h with
    | some (some (.l ys)),h=>
      obtain⟨s,h1,rfl⟩:=ML h
      obtain⟨g1,g2,g3,g4⟩:=mY h1
      refine⟨by simp [g1],fun j y=>?_,fun j zs hj=>?_,fun j zs hj=>?_⟩
      · cases j with
        | zero=>simp
        | succ j=>simpa using g2 j y
      · cases j with
        | zero=>
          simp at hj;subst hj
          exact⟨⟨xs,rfl⟩,by rw [List.head?_eq_getElem?] at he;exact he⟩
        | succ j=>
          obtain⟨c1,c2⟩:=g3 j zs (by simpa using hj)
          refine⟨by simpa using c1,?_⟩
          rw [List.getElem?_tail] at c2
          exact c2
      · cases j with
        | zero=>exact⟨ys,rfl⟩
        | succ j=>simpa using g4 j zs (by simpa using hj)
  | .n x::r,_,e,h=>by simp [rW] at h
end
theorem ef{α:Type}{l:List (Option α)}{k i:Nat}{x:α}(h:(l++Nk k none)[i]?=some (some x)):l[i]?=some (some x):=by
  rw [List.getElem?_append] at h
  split at h
  · exact h
  · rw [QI] at h
    split at h<;>simp at h
theorem ez{α:Type}{l:List (Option α)}{k i:Nat}{x:α}(h:l[i]?=some (some x)):(l++Nk k none)[i]?=some (some x):=by
  have hi:i < l.length:=(MN h).1
  rw [OH hi];exact h
section
variable{K:MS}{F H:Hp}{σ:L2.St}{e:En}{k:Nat}
theorem qS{i:Nat}{a:xM}:Fp (σ++Nk k none) (e++Nk k none) H i a↔ Fp σ e H i a:=by
  constructor
  · rintro(⟨xs,h1,h2⟩ | ⟨xss,l,bs,h1,h2,h3⟩)
    · exact .inl ⟨xs,ef h1,ef h2⟩
    · exact .inr ⟨xss,l,bs,ef h1,ef h2,h3⟩
  · rintro(⟨xs,h1,h2⟩ | ⟨xss,l,bs,h1,h2,h3⟩)
    · exact .inl ⟨xs,ez h1,ez h2⟩
    · exact .inr ⟨xss,l,bs,ez h1,ez h2,h3⟩
theorem eT{a:xM}:bw (σ++Nk k none) (e++Nk k none) H a↔ bw σ e H a:=⟨fun⟨i,h⟩=>⟨i,qS.mp h⟩,fun⟨i,h⟩=>⟨i,qS.mpr h⟩⟩
theorem aY.pad(R:aY K F H σ e):aY K F H (σ++Nk k none) (e++Nk k none):=by
  refine⟨R.sm,by simp [R.len],fun i x h=>?_,fun i xs h=>?_,fun i xss h=>?_,fun i j a h1 h2=>R.fp i j a (qS.mp h1) (qS.mp h2)⟩
  · obtain⟨v,g1,g2⟩:=R.dat i x (ef h)
    exact⟨v,ez g1,g2⟩
  · obtain⟨l,vs,g1,g2⟩:=R.own i xs (ef h)
    exact⟨l,vs,ez g1,g2⟩
  · obtain⟨l,bs,g1,g2⟩:=R.nst i xss (ef h)
    exact⟨l,bs,ez g1,g2⟩
end
theorem rP:∀{as as':List Sv} {e:En},rW as e=some as'→FL (as'.map some)
  | [],_,e,h=>by cases h;intro i xss z;simp at z
  | .d x::r,_,e,h=>by
    obtain⟨s,h1,rfl⟩:=ML h
    have ih:=rP h1
    intro i xss z
    cases i with
    | zero=>simp at z
    | succ i=>exact ih i xss (by simpa using z)
  | .l xs::r,_,e,h=>by
    unfold rW at h
    match he:e.head?,h with
    | some (some (.l ys)),h=>
      obtain⟨s,h1,rfl⟩:=ML h
      have ih:=rP h1
      intro i xss z
      cases i with
      | zero=>simp at z
      | succ i=>exact ih i xss (by simpa using z)
  | .n x::r,_,e,h=>by simp [rW] at h
theorem tf{W:List Nat}{as:List Sv}(h:jN W as=true){j:Nat}{xs:List MT}(hj:as[j]?=some (.l xs)):j∉W:=fun z=>by
  unfold jN at h
  have:=NQ.mp h j z
  rw [hj] at this
  cases this
section
variable{P:MZ}{w:MV}{K:MS}{mg:Str→Option Kg}{base:MY}
theorem dm.fn{x:Str}{st:Na}{f:xM}{fd:Nj}{N ps:List Str}{k n k0:Nat}{W:List Nat}{fb:FS}(h:dm K mg x st f fd ps)(S:au N ps (ag st))(hn:ps.length=n)(hN:N.length=n+k0)
    (hb:∀(cdv:Kg) (A:Nb) (outer:List Env) (s:MP) (H:Hp) (E:XK),bI k (A.deeper (envOfC x (ag st) s.heap.objs.size f cdv))→i0 (sy bY P w K mg base N x (ag st) f cdv A outer s H E).nox (cc st) (fS K fb W)):
    aA P w K mg base bY (k+1) f fd ps (di K n (h8 n k0 W fb)):=by
  refine h.F.ok S (fun vs H Q E q=>?_) fun cdv A outer s H vs Q E hr hsp=>⟨_,hb cdv A outer s H E hr,?_⟩
  · rw [hn];exact q.1
  · obtain⟨hl,F,as,r,as',R,nN,hm,nr,q⟩:=hsp
    unfold h8 at hm
    split at hm
    case isFalse=>cases hm
    case isTrue hc=>
    obtain⟨la,nl⟩:=hc
    obtain⟨fl,h1,hm⟩:=MJ hm
    have hst:gw N vs=vs.map some++Nk k0 none:=by unfold gw;rw [hN,hl];congr 2;lia
    rw [hst]
    have key:∀{as':List Sv} {e':En},rW as e'=some as'→∀F' H' σ',cY W (vs.map some++Nk k0 none) F H (as.map some++Nk k0 none) σ' F' H' e'→aY K F' H' σ' e'→
        cS (vs.map some) F H (as.map some) F' H' (as'.map some)∧aY K F' H' (vs.map some) (as'.map some)∧∀a,bw (vs.map some) (as'.map some) H' a→bw (vs.map some) (as.map some) H a:=by
      intro as' e' hu F' H' σ' X' R'
      obtain⟨u1,u2,u3,u4⟩:=mY hu
      have uN:=rP hu
      have ow:∀a,bw (vs.map some) (as'.map some) H' a→bw (vs.map some) (as.map some) H a:=by
        rintro a ⟨j,⟨ys,c1,c2⟩ | ⟨xss,_,_,z,_⟩⟩
        · obtain⟨⟨xs,c3⟩,_⟩:=u3 j ys (eS.mp c1)
          exact⟨j,.inl ⟨xs,eS.mpr c3,c2⟩⟩
        · exact absurd z (uN j xss)
      have sg:∀(j:Nat) (xs:List MT),as[j]?=some (.l xs)→σ'[j]?=(vs.map some)[j]?:=fun j xs hj=>by
        rw [X'.wr j (tf nl hj)]
        have hj2:j < (vs.map some).length:=by rw [NC,hl,←la];exact(MN hj).1
        rw [OH hj2]
      refine⟨⟨X'.sf,X'.dom,fun a vs h1 h2 hn=>X'.fr a vs h1 h2 fun z=>hn (eT.mp z),X'.lst,fun a o ha hn=>X'.tmp a o ha fun z=>hn (eT.mp z),fun j=>?_,fun a z=>.inl (ow a z),fun a m h1 h2 hn=>X'.fd a m h1 h2 fun z=>hn (eT.mp z)⟩,⟨R'.sm,?_,fun j y hj=>?_,fun j ys hj=>?_,fun j xss hj=>absurd hj (uN j xss),fun j i l f1 f2=>?_⟩,ow⟩
      · constructor
        · rintro⟨ys,hj⟩
          obtain⟨⟨xs,c⟩,_⟩:=u3 j ys (eS.mp hj)
          exact⟨xs,eS.mpr c⟩
        · rintro⟨xs,hj⟩
          obtain⟨ys,c⟩:=u4 j xs (eS.mp hj)
          exact⟨ys,eS.mpr c⟩
      · simp [u1,hl,la]
      · obtain⟨v,c1,c2⟩:=R.dat j y (eS.mpr ((u2 j y).mp (eS.mp hj)))
        exact⟨v,c1,DA.mono X'.sf c2⟩
      · obtain⟨⟨xs,c1⟩,c2⟩:=u3 j ys (eS.mp hj)
        obtain⟨l,us,d1,d2⟩:=R'.own j ys c2
        exact⟨l,us,by rw [←sg j xs c1];exact d1,d2⟩
      · obtain⟨xs,g1,g3⟩:=f1.resolve_right fun⟨xss,_,_,z,_⟩=>uN j xss z
        obtain⟨ys,g2,g4⟩:=f2.resolve_right fun⟨xss,_,_,z,_⟩=>uN i xss z
        obtain⟨⟨zs,c1⟩,c2⟩:=u3 j xs (eS.mp g1)
        obtain⟨⟨ws,c3⟩,c4⟩:=u3 i ys (eS.mp g2)
        exact R'.inj j i xs ys l c2 c4 (by rw [sg j zs c1];exact g3) (by rw [sg i ws c3];exact g4)
    refine⟨F,as.map some++Nk k0 none,fl,R.pad,h1,?_⟩
    cases fl with
    | bk e'=>cases hm
    | ct e'=>cases hm
    | nx e'=>
      obtain⟨as2,h2,hm⟩:=ML hm
      cases hm
      intro F' H' σ' X' R'
      obtain⟨X2,R2,_⟩:=key h2 F' H' σ' X' R'
      exact q F' H' .non X2 R2 ((ee (K:=K) (F:=F')).mpr rfl)
    | rt r0 e'=>
      obtain⟨r1,h2,hm⟩:=MJ hm
      obtain⟨as2,h3,hm⟩:=ML hm
      cases hm
      intro F' H' σ' v X' R' A'
      obtain⟨X2,R2,ow2⟩:=key h3 F' H' σ' X' R'
      have noo:∀l,H l=none→¬bw (vs.map some) (as'.map some) H' l:=fun l hl z=>R.ownH l (ow2 l z) hl
      refine q F' H' v X2 R2 ?_
      cases r0 with
      | d y=>cases h2;exact A'
      | l ys=>
        cases h2
        obtain⟨l,us,d0,d1,d2,d3,d4,_⟩:=A'
        exact⟨l,us,d0,d1,d2,d3,d4,noo l d1⟩
      | s i=>
        simp only [qR] at h2
        split at h2
        case isFalse=>cases h2
        case isTrue hi=>
        obtain⟨a1,xs,a2⟩:=A'
        rw [a2] at h2
        cases h2
        obtain⟨l,us,d1,d2,d3,d4⟩:=R'.own i _ a2
        rw [a1] at d1;cases d1
        suffices hl0:H l=none from⟨l,us,rfl,hl0,d2,d3,d4,noo l hl0⟩
        rcases X'.own l ⟨i,.inl ⟨_,a2,a1⟩⟩ with z | z
        · obtain⟨j,zf⟩:=eT.mp z
          obtain⟨ys,z1,z2⟩:=zf.resolve_right fun⟨xss,_,_,z,_⟩=>nN j xss z
          have z1':=eS.mp z1
          obtain⟨u1,u2,u3,u4⟩:=mY h3
          obtain⟨ws,w1⟩:=u4 j ys z1'
          obtain⟨_,w2⟩:=u3 j ws w1
          have hj2:j < vs.length:=by rw [hl,←la];exact(MN z1').1
          have e3:σ'[j]?=some (some (.ref l)):=by
            rw [X'.wr j (tf nl z1'),OH (by simpa using hj2)]
            exact z2
          have:=R'.inj i j _ ws l a2 w2 a1 e3
          lia
        · exact z
end
def Gz:Option Sv→Option Sv
  | some (.n _)=>none
  | s=>s
def sR(cp:List (Nat × Str))(nT:Nat)(e:En):En:=cp.map (fun p=>Gz (e[p.1]?).join)++Nk nT none
def mN(cp:List (Nat × Str))(i:Nat):Option Nat:=cp.findIdx? fun p=>p.1==i
def ja(g:FG)(ft:FT)(fe:FE):List MT→En→List MT→Option (List MT × En)
  | [],e,acc=>some (acc,e)
  | x::r,e,acc=>(g x e).bind fun e1=>(ft e1).bind fun b=>if b.1=true then(fe b.2).bind fun v=>(gM v.1).bind fun d=>if acc.length < 1000000 then ja g ft fe r v.2 (acc++[d]) else none else ja g ft fe r b.2 acc
def lA(cp:List (Nat × Str))(ei e:En):Bool:=cp.all fun p=> !xR e[p.1]? || xR ei[(mN cp p.1).getD 0]?
def dI(cp:List (Nat × Str))(nT:Nat)(fi:FI)(g:FG)(ft:FT)(fe:FE):FE:=fun e=>(fi e).bind fun p=>if (p.2.1.all fun q=> !(cp.any fun c=>c.1==q.1))=true then(ja g ft fe p.1 (sR cp nT p.2.2) []).bind fun z=>if lA cp z.2 p.2.2=true then some (.l z.1,o5 (mN cp) z.2 p.2.2) else none else none
section
variable{K:MS}{F H:Hp}{σ:L2.St}{e:En}{cp:List (Nat × Str)}{nT:Nat}
theorem e7{i k:Nat}(h:mN cp i=some k):∃s,cp[k]?=some (i,s):=by
  unfold mN at h
  rw [Rj] at h
  obtain⟨hk,h1,_⟩:=h
  refine⟨cp[k].2,?_⟩
  rw [Ot hk]
  have:=eq_of_beq h1
  rw [←this]
theorem jB{k:Nat}{x:Sv}(h:(sR cp nT e)[k]?=some (some x)):∃i s,cp[k]?=some (i,s)∧e[i]?=some (some x):=by
  unfold sR at h
  have h:=ef h
  rw [NF] at h
  obtain⟨p,h1,h2⟩:=ML h
  refine⟨p.1,p.2,h1,?_⟩
  cases q:e[p.1]? with
  | none=>rw [q] at h2;cases h2
  | some y=>
    rw [q] at h2
    match y,h2 with
    | some (.d z),h2=>exact congrArg some h2
    | some (.l z),h2=>exact congrArg some h2
    | some (.n z),h2=>cases h2
    | none,h2=>cases h2
theorem kz:FL (sR cp nT e):=by
  intro k xss h
  unfold sR at h
  have h:=ef h
  rw [NF] at h
  obtain⟨p,h1,h2⟩:=ML h
  match (e[p.1]?).join,h2 with
  | some (.d z),h2=>cases h2
  | some (.l z),h2=>cases h2
  | some (.n z),h2=>cases h2
  | none,h2=>cases h2
theorem mX{k i:Nat}{s:Str}{v:V}(h:cp[k]?=some (i,s))(hv:σ[i]?=some (some v)):(iQ cp nT σ)[k]?=some (some v):=by
  unfold iQ
  refine ez ?_
  rw [NF,h]
  simp [hv]
theorem oU{k i:Nat}{s:Str}{v:V}(h:cp[k]?=some (i,s))(hv:(iQ cp nT σ)[k]?=some (some v)):σ[i]?=some (some v):=by
  unfold iQ at hv
  have hv:=ef hv
  rw [NF,h] at hv
  simp only [NZ,Pf] at hv
  cases q:σ[i]? with
  | none=>rw [q] at hv;cases hv
  | some y=>rw [q] at hv;exact congrArg some hv
theorem qM:∀{cp:List (Nat × Str)} {k j i:Nat} {s t:Str},(cp.map (·.1)).Nodup→cp[k]?=some (i,s)→cp[j]?=some (i,t)→k=j
  | [],k,j,i,s,t,_,h,_=>by simp at h
  | p::r,k,j,i,s,t,hn,h1,h2=>by
    simp only [ND,OZ] at hn
    cases k with
    | zero=>
      simp at h1;subst h1
      cases j with
      | zero=>rfl
      | succ j=>
        have hm:(i,t)∈r:=MR (i:=j) (by simpa using h2)
        exact absurd (OI.mpr ⟨(i,t),hm,rfl⟩) hn.1
    | succ k=>
      cases j with
      | zero=>
        simp at h2;subst h2
        have hm:(i,s)∈r:=MR (i:=k) (by simpa using h1)
        exact absurd (OI.mpr ⟨(i,s),hm,rfl⟩) hn.1
      | succ j=>
        have:=qM (cp:=r) (k:=k) (j:=j) hn.2 (by simpa using h1) (by simpa using h2)
        lia
theorem aY.inn(R:aY K F H σ e)(hn:(cp.map (·.1)).Nodup):aY K F H (iQ cp nT σ) (sR cp nT e)∧rY σ e (iQ cp nT σ) (sR cp nT e) (mN cp):=by
  refine⟨⟨R.sm,by simp [iQ,sR],fun k x h=>?_,fun k xs h=>?_,fun k xss h=>absurd h (kz k xss),fun k j l f1 f2=>?_⟩,⟨fun i k xs h1 h2=>?_,fun k ys h=>?_⟩⟩
  · obtain⟨i,s,h1,h2⟩:=jB h
    obtain⟨v,g1,g2⟩:=R.dat i x h2
    exact⟨v,mX h1 g1,g2⟩
  · obtain⟨i,s,h1,h2⟩:=jB h
    obtain⟨l,vs,g1,g2⟩:=R.own i xs h2
    exact⟨l,vs,mX h1 g1,g2⟩
  · obtain⟨xs,h1,h3⟩:=f1.resolve_right fun⟨xss,_,_,z,_⟩=>kz k xss z
    obtain⟨ys,h2,h4⟩:=f2.resolve_right fun⟨xss,_,_,z,_⟩=>kz j xss z
    obtain⟨i,s,a1,a2⟩:=jB h1
    obtain⟨i',s',b1,b2⟩:=jB h2
    have:i=i':=R.inj i i' xs ys l a2 b2 (oU a1 h3) (oU b1 h4)
    subst this
    exact qM hn a1 b1
  · obtain⟨s,g⟩:=e7 h2
    obtain⟨l,vs,g1,_⟩:=R.own i xs h1
    rw [g1];exact mX g g1
  · obtain⟨i,s,h1,h2⟩:=jB h
    obtain⟨l,vs,g1,_⟩:=R.own i ys h2
    refine⟨i,ys,h2,?_,by rw [g1];exact mX h1 g1⟩
    cases hp:mN cp i with
    | none=>
      unfold mN at hp
      rw [Qx] at hp
      have:=hp _ (MR h1)
      simp at this
    | some j=>
      obtain⟨t,g⟩:=e7 hp
      rw [qM hn g h1]
theorem aY.putT(R:aY K F H σ e){l:xM}{ws:List V}(h1:F l=none)(h2:¬bw σ e H l):aY K F (bv H l (.lst ws)) σ e∧∀a,bw σ e (bv H l (.lst ws)) a↔ bw σ e H a:=
  R.keep (ao.refl F) (fun b o q=>by
    have z:b≠l:=fun z=>by rw [z,h1] at q;cases q
    rw [ar z];exact R.sm b o q) (fun a ⟨i,h⟩=>(R.fpAt h).1) fun a o ha q=>by
      have z:a≠l:=fun z=>h2 (by rw [←z];exact ha)
      rw [ar z];exact q
theorem cY.putT{W:List Nat}{σ':L2.St}{F' H':Hp}{e':En}(x:cY W σ F H e σ' F' H' e'){l:xM}{o:HO}(h:H l=none)(ho:∀a,bw σ' e' (bv H' l o) a↔ bw σ' e' H' a):cY W σ F H e σ' F' (bv H' l o) e':=by
  refine⟨x.sf,fun a q=>?_,x.fr,fun a vs q=>?_,fun a u q n=>?_,fun a q=>x.own a ((ho a).mp q),x.wr,x.fd⟩
  · by_cases z:a=l
    · rw [z];exact h
    · rw [ar z] at q;exact x.dom a q
  · have z:a≠l:=fun z=>by rw [z,h] at q;cases q
    rw [ar z];exact x.lst a vs q
  · have z:a≠l:=fun z=>by rw [z,h] at q;cases q
    rw [ar z];exact x.tmp a u q n
inductive CI (K:MS) (W:List Nat) (σ0:L2.St) (F1 H1:Hp) (e0:En) (l:xM) (P:Hp→En→List MT→Prop) (σ':L2.St) (H':Hp):Prop
  | mk {F':Hp} {ei:En} {acc:List MT} {vs:List V} (R:aY K F' H' σ' ei) (X:cY W σ0 F1 H1 e0 σ' F' H' ei) (fl:F' l=none) (no:¬bw σ' ei H' l) (hl:H' l=some (.lst vs)) (da:aN K F' acc vs) (hc:P F' ei acc):CI K W σ0 F1 H1 e0 l P σ' H'
theorem Ak{Q:VK}{fi:FI}{g:FG}{W:List Nat}{ft:FT}{fe:FE}(hn:(cp.map (·.1)).Nodup)(hW:∀j∈W,cp.length≤j)(h:fE K (dI cp nT fi g ft fe) σ H Q):Ad cp nT (fI K fi) (fG K g W) (fT K ft) (fE K fe) σ H Q:=by
  obtain⟨F0,e0,z,e',R0,hf,q⟩:=h
  unfold dI at hf
  obtain⟨⟨items,own,e1⟩,h1,hf⟩:=MJ hf
  dsimp only at hf
  split at hf
  case isFalse=>cases hf
  case isTrue hO=>
  obtain⟨⟨out,eo⟩,h2,hf⟩:=MJ hf
  dsimp only at hf
  split at hf
  case isFalse=>cases hf
  case isTrue hB=>
  cases hf
  refine⟨⟨F0,e0,items,own,e1,R0,h1,fun J F1 H1 X1 R1 kp ok=>?_⟩⟩
  intro l hl
  obtain⟨Ri,sub⟩:=R1.inn (nT:=nT) hn
  have hFl:F1 l=none:=R1.freeF hl
  let Iv:Nat→L2.St→Hp→Prop:=fun i=>CI K W (iQ cp nT σ) F1 H1 (sR cp nT e1) l fun _ ei acc=>ja g ft fe (items.drop i) ei acc=some (out,eo)
  have notown:∀p∈own,∀a,σ[p.1]?=some (some (.ref a))→¬bw (iQ cp nT σ) (sR cp nT e1) H1 a:=by
    rintro p hp a ha ⟨k,zf⟩
    obtain⟨xs,c1,c2⟩:=zf.resolve_right fun⟨xss,_,_,z,_⟩=>kz k xss z
    obtain⟨i,s,d1,d2⟩:=jB c1
    have e2:=oU d1 c2
    have:p.1=i:=R1.inj p.1 i p.2 xs a (kp p hp) d2 ha e2
    have hh:=NQ.mp hO p hp
    simp only [Bool.not_eq_true',List.any_eq_false,beq_iff_eq] at hh
    exact hh (i,s) (MR d1) this.symm
  refine⟨fun i m σ' H'=>m=items.length - i∧i≤items.length∧Iv i σ' H',⟨items.length,by simp,ON _,.mk (Ri.putT hFl (fun z=>(Ri.ownH l z) hl)).1 (cY.refl.putT hl (Ri.putT hFl (fun z=>(Ri.ownH l z) hl)).2) hFl (fun z=>(Ri.ownH l (((Ri.putT hFl (fun z=>(Ri.ownH l z) hl)).2 l).mp z)) hl) aq aN.nil h2⟩,?_⟩
  rintro i m σ' H' ⟨rfl,hi,⟨R',X',fl,no,hl',da,hc⟩⟩
  rename_i F' ei acc vs
  have held:xS K σ F' H' own:=fun p hp=>by
    obtain⟨a,us,c1,c2,c3,c4⟩:=R1.own p.1 p.2 (kp p hp)
    exact⟨a,us,c1,X'.tmp a _ c3 (notown p hp a c1),c4.mono X'.sf⟩
  obtain⟨go,stop,yld⟩:=ok F' H' X'.sf R'.sm held
  by_cases hlt:i < items.length
  · have hd:items.drop i=items[i]::items.drop (i+1):=QT hlt
    rw [hd] at hc
    unfold ja at hc
    obtain⟨e2,c2,hc⟩:=MJ hc
    obtain⟨⟨b,e3⟩,c3,hc⟩:=MJ hc
    refine .inr ⟨go i hlt,Iv (i+1),fun σ2 H2 r=>⟨items.length - (i+1),by lia,rfl,hlt,r⟩,fun x H2 hy=>?_⟩
    obtain⟨F2,sH,sF2,sm2,fz,hx⟩:=yld i items[i] x H2 (Ot hlt) hy
    obtain⟨R2,X2⟩:=R'.step sH sF2 sm2 fz
    refine⟨F2,ei,items[i],e2,R2,hx,c2,fun σ3 X3 R3=>⟨F2,e2,b,e3,R3,c3,fun F4 H4 X4 R4=>?_⟩⟩
    have hlH2:H2 l=some (.lst vs):=sH _ _ hl'
    have no2:¬bw σ' ei H2 l:=fun z=>by
      rcases X2.ow l z with z | z
      · exact no z
      · rw [hl'] at z;cases z
    have no3:¬bw σ3 e2 H2 l:=fun z=>by
      rcases X3.own l z with z | z
      · exact no2 z
      · rw [hlH2] at z;cases z
    have fl2:F2 l=none:=fz l fl (by rw [hl'];simp)
    have hlH4:H4 l=some (.lst vs):=X4.tmp l _ hlH2 no3
    have fl4:F4 l=none:=X4.fr l vs fl2 hlH2 no3
    have no4:¬bw σ3 e3 H4 l:=fun z=>by
      rcases X4.ow l z with z | z
      · exact no3 z
      · rw [hlH2] at z;cases z
    have E4:cY W (iQ cp nT σ) F1 H1 (sR cp nT e1) σ3 F4 H4 e3:=((X'.trans X2.s).trans X3).trans X4.s
    cases b with
    | false=>
      rw [if_neg (by simp)] at hc
      exact Gp (.mk R4 E4 fl4 no4 hlH4 (da.mono (sF2.trans X4.sf)) hc)
    | true=>
      rw [if_pos rfl] at hc
      obtain⟨⟨r,e5⟩,c5,hc⟩:=MJ hc
      obtain⟨d,c6,hc⟩:=MJ hc
      split at hc
      case isFalse=>cases hc
      case isTrue hlen=>
      refine Gq ⟨F4,e3,r,e5,R4,c5,fun F5 H5 v X5 R5 A5=>?_⟩
      have hlH5:H5 l=some (.lst vs):=X5.tmp l _ hlH4 no4
      have fl5:F5 l=none:=X5.fr l vs fl4 hlH4 no4
      have no5:¬bw σ3 e5 H5 l:=fun z=>by
        rcases X5.ow l z with z | z
        · exact no4 z
        · rw [hlH4] at z;cases z
      obtain⟨F6,R6,s6,d6,f6⟩:=dr.frozen R5 (rs:=[r]) (vs:=[v]) ⟨v,[],rfl,A5,rfl⟩ (wX c6)
      have fl6:F6 l=none:=f6 l fl5 (by rw [hlH4];simp)
      have X6:=X5.frz s6 f6
      have ll:=da.len
      have sl:Nl=16777216:=NU
      have dv:DA K F6 d v:=by
        simp only [aN] at d6
        obtain⟨v',r',e',hv,_⟩:=d6
        cases e';exact hv
      obtain⟨R7,o7⟩:=R6.putT (ws:=vs++[v]) fl6 no5
      exact⟨vs,hlH5,by lia,.mk R7 ((E4.trans X6.s).putT hl o7) fl6 (fun z=>no5 ((o7 l).mp z)) aq ((da.mono (sF2.trans (X4.sf.trans (X5.sf.trans s6)))).append (aN.one dv)) hc⟩
  · have hd:items.drop i=[]:=QU (by lia)
    rw [hd] at hc
    cases hc
    refine .inl ⟨stop i (by lia),?_⟩
    obtain⟨R9,X9,o9⟩:=tZ R1 sub kz X'.sf X'.dom X'.fr X'.lst X'.tmp X'.fd R' (fun i k xs g1 g2=>X'.wr k fun z=>by
      obtain⟨s,g⟩:=e7 g2
      have:=(MN g).1
      have:=hW k z
      lia) fun i k xs g1 g2=>by
        obtain⟨s,g⟩:=e7 g2
        unfold lA at hB
        have hb:=NQ.mp hB _ (MR g)
        simp only [g1,g2,Qt,xR,Bool.not_true,Bool.false_or] at hb
        exact A6.mp hb
    exact q F' H' (.ref l) (X1.trans X9) R9 ⟨l,vs,rfl,X1.dom l hl,fl,hl',da,fun z=>R1.ownH l (o9 l z) hl⟩
end
section
variable{X:Cx}{K:MS}{a b:MU}{es:List MU}{fa fb:FE}{fs:FA}{pos p p2 p3:Pos}{lo hi:Option MU}
def DB:En→Rv→Option Rv:=fun _ x=>(cq x).map fun i=>.d (.int (-i))
theorem GJ:FJ K (rU fun i=>.int (-i)) DB:=by
  intro σ H0 F H e x z v Q R A hg q
  obtain⟨i,h5,h4⟩:=ML hg
  cases h4
  exact⟨i,cy A h5,q F H _ (cS.refl _ _ _ _) R oH⟩
theorem GW(ha:PE X a (fE K fa)):PE X (.UnaryOp .USub a pos) (fE K (uh DB fa)):=GY Fv GJ ha
theorem cL(hK:X.K=K)(ha:PE X a (fE K fa))(hb:PE X b (fE K fb)):PE X (.BinOp a .Add b pos) (fE K (ax cx fa fb)):=oA (hK ▸ vP) Cy ha hb
theorem zE(ha:PE X a (fE K fa))(hb:PE X b (fE K fb)):PE X (.BinOp a .Sub b pos) (fE K (ax lF fa fb)):=oA ED He ha hb
theorem qf(hK:X.K=K)(ha:PE X a (fE K fa))(hb:PE X b (fE K fb)):PE X (.BinOp a .Mult b pos) (fE K (ax nP fa fb)):=oA (hK ▸ BC) GI ha hb
theorem jn(ha:PE X a (fE K fa))(hb:PE X b (fE K fb)):PE X (.BinOp a .FloorDiv b pos) (fE K (ax fx fa fb)):=oA y' Dx ha hb
theorem bo(ha:PE X a (fE K fa))(hb:PE X b (fE K fb)):PE X (.BinOp a .Mod b pos) (fE K (ax bu fa fb)):=oA BB GH ha hb
theorem C2(ha:PE X a (fE K fa))(hb:PE X b (fE K fb)):PE X (.BinOp a .Pow b pos) (fE K (ax uB fa fb)):=oA EB GS ha hb
theorem ce(hK:X.K=K)(ha:PE X a (fE K fa))(hb:PE X b (fE K fb))(hs:kg b):PE X (.Subscript a b pos) (fE K (ax dM fa fb)):=GX (hK ▸ Gu) Gw ha hb hs
theorem mU{fl fh:FO}(hK:X.K=K)(he:PE X a (fE K fa))(hl:PO X lo (fO K fl))(hh:PO X hi (fO K fh)):PE X (.Subscript a (.Slice lo hi none p2) pos) (fE K (wD fa fl fh)):=by subst hK;exact zJ he hl hh
structure mE (X:Cx) (K:MS) (op:CmpOp) (g:En→Rv→Rv→Option Rv):Prop where
  ex:∃r,gf X (NO op) r∧f_ K r g
theorem AK:mE X K .Lt CM:=⟨_,GO,IM⟩
theorem x6:mE X K .Gt CK:=⟨_,GN,IC⟩
theorem x5:mE X K .GtE CJ:=⟨_,GM,IB⟩
theorem fj{k:Nat}(hK:X.K=K)(hr:bI k X.A):mE X K .Eq (bj false):=⟨_,hK ▸ Et hr,CG⟩
theorem x8{k:Nat}(hK:X.K=K)(hr:bI k X.A):mE X K .NotEq (bj true):=⟨_,hK ▸ EA hr,CG⟩
theorem wL{k:Nat}(hK:X.K=K)(hr:bI k X.A):mE X K .In (uj false):=⟨_,hK ▸ Eu hr,Gg⟩
theorem AL{k:Nat}(hK:X.K=K)(hr:bI k X.A):mE X K .NotIn (uj true):=⟨_,hK ▸ xw hr,Gg⟩
theorem F_:mE X K .Is FK:=⟨_,Ew,IG⟩
theorem qI:mE X K .IsNot j1:=⟨_,xt,A7⟩
theorem mi{op:CmpOp}{g:En→Rv→Rv→Option Rv}(h:mE X K op g)(ha:PE X a (fE K fa))(hb:PE X b (fE K fb))(hm:Ov op b=false):PE X (.Compare a [op] [b] pos) (fE K (ax g fa fb)):=by
  obtain⟨r,h1,h2⟩:=h.ex;exact EW h1 h2 ha hb hm
theorem aI{op:CmpOp}{g:En→Rv→Rv→Option Rv}(h:mE X K op g)(ha:PE X a (fE K fa))(hb:PE X b (fE K fb))(hm:Ov op b=false):PT X (.Compare a [op] [b] pos) (fT K (ay (ax g fa fb))):=by
  obtain⟨r,h1,h2⟩:=h.ex;exact EZ h1 h2 ha hb hm
structure jU (X:Cx) (K:MS) (x:Str) (g:En→List Rv→Option Rv):Prop where
  ex:(∃id r,cM X (.builtin id) r∧cJ K r g∧OA x=some (.builtin id))∨∃T r,cM X (.type T) r∧cJ K r g∧OA x=some (.type T)
theorem aT{x:Str}{g:En→List Rv→Option Rv}(h:jU X K x g)(hg:Gl X x)(hm:X.mg x=none)(ha:PA X (a::es) (fA K fs))(hn:x≠"__name__")(hdb:(x==("__debug__":Str))=false)
    (he:Nf (a::es) X.env=(false,Nh a X.env)::Nf es X.env)(hpl:(Nr pos (Nf es X.env)).any (·.1)=false):PE X (.Call (.Name x p) (a::es) [] pos) (fE K (aB g fs)):=by
  rcases h.ex with ⟨id,r,h1,h2,h3⟩ | ⟨T,r,h1,h2,h3⟩
  · exact zH h1 h2 hg hm h3 ha hn hdb he hpl
  · exact xB h1 h2 hg hm h3 ha hn hdb he hpl
theorem b_len(hK:X.K=K):jU X K "len" (g1 gb):=⟨.inl ⟨_,_,hK ▸ qJ,Gy,PySem.boot_len⟩⟩
theorem b_abs:jU X K "abs" (g1 wY):=⟨.inl ⟨_,_,x9,FV,PyProof.Rows.boot_abs⟩⟩
theorem b_min(hc:X.calm=true):jU X K "min" (g2 yo):=⟨.inl ⟨_,_,wQ hc,GG,PyProof.Rows.boot_min⟩⟩
theorem b_max(hc:X.calm=true):jU X K "max" (g2 xb):=⟨.inl ⟨_,_,wN hc,GF,PyProof.Rows.boot_max⟩⟩
theorem b_int:jU X K "int" (g1 pz):=⟨.inr ⟨_,_,wM,Gh,PyProof.Rows.boot_int⟩⟩
theorem b_tuple(hK:X.K=K):jU X K "tuple" (g1 dz):=⟨.inr ⟨_,_,hK ▸ pq,Cf,PyProof.Rows.boot_tuple⟩⟩
theorem Do(hK:X.K=K):jU X K "list" (g1 CL):=⟨.inr ⟨_,_,hK ▸ qK,D_,PyProof.Rows.boot_list⟩⟩
theorem b_sum{k:Nat}(hK:X.K=K)(hr:bI k X.A):jU X K "sum" (g1 (jf vI)):=⟨.inl ⟨_,_,hK ▸ yc hr,Hf,PyProof.Rows.boot_sum⟩⟩
theorem b_all{k:Nat}(hK:X.K=K)(hr:bI k X.A):jU X K "all" (g1 (jf sJ)):=⟨.inl ⟨_,_,x_ hr hK,FW,xZ⟩⟩
theorem b_sorted(hK:X.K=K):jU X K "sorted" (g1 dW):=⟨.inl ⟨_,_,hK ▸ uw,B9,PyProof.Rows.boot_sorted⟩⟩
abbrev oW:FT:=fun e=>some (true,e)
theorem Ao.mono{ifs:List MU}{t t':TT}(h:Ao X ifs t)(m:∀σ H Q,t' σ H Q→t σ H Q):Ao X ifs t':=fun pins s σ H Q I q=>h pins s σ H Q I (m σ H Q q)
theorem mW:Ao X [] (fT K oW):=BV.mono fun σ H Q h=>by
  obtain⟨F,e,b,e',R,hf,q⟩:=h
  cases hf
  exact q F H (cS.refl _ _ _ _) R
theorem iM{c:MU}{ft:FT}(h:PT X c (fT K ft)):Ao X [c] (fT K ft):=BW h
variable{o:MU}{fo:FE}{apos cpos:Pos}
theorem fQ(hK:X.K=K)(ho:PE X o (fE K fo))(ha:PA X (a::es) (fA K fs))(hbase:Oh o "append" X.env (Nh o X.env)=Nh o X.env)
    (hfew:((Nr cpos (Nf (a::es) X.env)).all (fun x=> !x.1)&&(OF cpos (OG [] X.env)).all (fun x=>x.1.isSome)
      &&decide ((a::es).length+([]:List NV).length+(if ([]:List NV).isEmpty then 0 else 1) < 30))=true)
    (hline:(apos.endLine==cpos.line)=true)(hs:Nf (a::es) X.env=(false,Nh a X.env)::Nf es X.env)(hplain:(Nr cpos (Nf es X.env)).any (·.1)=false):
    PE X (.Call (.Attribute o "append" apos) (a::es) [] cpos) (fE K (b7 bK fo fs)):=by
  subst hK;exact C3 PySem.F.slot_list_append PySem.F.type_list_append qd xV ho ha hbase hfew hline hs hplain
theorem BZ(hK:X.K=K)(ho:PE X o (fE K fo))(ha:PA X (a::es) (fA K fs))(hbase:Oh o "pop" X.env (Nh o X.env)=Nh o X.env)
    (hfew:((Nr cpos (Nf (a::es) X.env)).all (fun x=> !x.1)&&(OF cpos (OG [] X.env)).all (fun x=>x.1.isSome)
      &&decide ((a::es).length+([]:List NV).length+(if ([]:List NV).isEmpty then 0 else 1) < 30))=true)
    (hline:(apos.endLine==cpos.line)=true)(hs:Nf (a::es) X.env=(false,Nh a X.env)::Nf es X.env)(hplain:(Nr cpos (Nf es X.env)).any (·.1)=false):
    PE X (.Call (.Attribute o "pop" apos) (a::es) [] cpos) (fE K (b7 fL fo fs)):=by
  subst hK;exact C3 Qn PySem.F.type_list_pop yP BR ho ha hbase hfew hline hs hplain
theorem C1(hK:X.K=K)(ho:PE X o (fE K fo))(hbase:Oh o "pop" X.env (Nh o X.env)=Nh o X.env)(hline:(apos.endLine==cpos.line)=true):
    PE X (.Call (.Attribute o "pop" apos) [] [] cpos) (fE K (b7 mK fo ah)):=by
  subst hK;exact zG Qn PySem.F.type_list_pop Ed GR ho hbase hline
end
theorem u_{K:MS}{H:Hp}{a:xM}{ns:List Int}{m:FM}{as':List Sv}{Q:VK}{E:XK}(hS:gF K H a (ns.map V.int))(hm:m [.d (.list (ns.map .int))]=some (.d (.bool true),as'))(q:∀H',Q (.bl true) H'):di K 1 m [.ref a] H Q E:=by
  refine⟨rfl,H,[.d (.list (ns.map .int))],_,as',?_,?_,hm,trivial,fun F' H' v X' R' A'=>?_⟩
  · refine⟨ao.refl _,rfl,fun i x h=>?_,fun i xs h=>?_,fun i xss h=>?_,fun i j l f1 _=>?_⟩
    · match i,h with
      | 0,h=>
        simp at h;subst h
        exact⟨.ref a,rfl,eI.mpr ⟨a,_,rfl,hS,aN.ints.mpr rfl⟩⟩
      | i+1,h=>simp at h
    · match i,h with
      | 0,h=>simp at h
      | i+1,h=>simp at h
    · match i,h with
      | 0,h=>simp at h
      | i+1,h=>simp at h
    · rcases f1 with ⟨_,h,_⟩ | ⟨_,_,_,h,_⟩
      · match i,h with
        | 0,h=>simp at h
        | i+1,h=>simp at h
      · match i,h with
        | 0,h=>simp at h
        | i+1,h=>simp at h
  · intro i xss h
    match i,h with
    | 0,h=>simp at h
    | i+1,h=>simp at h
  · rw [cT.mp (show DA K F' (.bool true) v from A')];exact q H'
section
variable{K:MS}{σ:L2.St}{H0 F H F' H':Hp}{e e':En}
end
section
variable{X:Cx}{K:MS}{a b:MU}{es:List MU}{fa fb:FE}{fs:FA}{pos p p2 p3 pos':Pos}{x:Str}{i:Nat}
def nC(k:Int):En→Option Int:=fun _=>some k
end
theorem lD{C:Int→Int→Bool}{f:Int→Int→MT}{e:En}{i j:Int}(h:C i j=true):gI C f e (.d (.int i)) (.d (.int j))=some (.d (f i j)):=by simp [gI,cq,h]
theorem fw{e:En}{i j:Int}:cx e (.d (.int i)) (.d (.int j))=some (.d (.int (i+j))):=rfl
theorem c_{e:En}{i j:Int}:lF e (.d (.int i)) (.d (.int j))=some (.d (.int (i - j))):=rfl
theorem nQ{e:En}{i j:Int}(h:lK i j=true):nP e (.d (.int i)) (.d (.int j))=some (.d (.int (i*j))):=by
  unfold nP Aw yp;rw [lD h];rfl
theorem yR{i j:Int}(h1: -(2 ^ 64) < i)(h2:i < 2 ^ 64):lK i j=true:=by
  have:iR i=true:=by unfold iR;rw [decide_eq_true h1,decide_eq_true h2];rfl
  unfold lK;rw [this];simp
theorem ri{i j:Int}(h1: -(2 ^ 64) < j)(h2:j < 2 ^ 64):lK i j=true:=by
  have:iR j=true:=by unfold iR;rw [decide_eq_true h1,decide_eq_true h2];rfl
  unfold lK;rw [this];simp
theorem aW{e:En}{i j:Int}(h:0 < j):bu e (.d (.int i)) (.d (.int j))=some (.d (.int (i % j))):=by
  unfold bu;rw [lD (by simp;lia)]
  rw [Int.fmod_eq_emod_of_nonneg i (by lia)]
theorem eY{e:En}{i j:Int}(h:0 < j)(h2:Bt 8000 j):fx e (.d (.int i)) (.d (.int j))=some (.d (.int (i / j))):=by
  unfold fx;rw [lD (by simp [kl.mpr h2];lia)]
  rw [Int.fdiv_eq_ediv_of_nonneg i (by lia)]
theorem ip{e:En}{i j:Int}{neg:Bool}:bj neg e (.d (.int i)) (.d (.int j))=some (.d (.bool (if neg then !(i==j) else i==j))):=by
  unfold bj;simp [gN,NI,NR,Oj,Oy]
theorem iA{e:En}{i j:Int}:CM e (.d (.int i)) (.d (.int j))=some (.d (.bool (decide (i < j)))):=rfl
theorem iy{e:En}{i j:Int}:JX e (.d (.int i)) (.d (.int j))=some (.d (.bool (decide (i≤j)))):=rfl
theorem iu{e:En}{i j:Int}:CK e (.d (.int i)) (.d (.int j))=some (.d (.bool (decide (j < i)))):=rfl
theorem ir{e:En}{i j:Int}:CJ e (.d (.int i)) (.d (.int j))=some (.d (.bool (decide (j≤i)))):=rfl
theorem fB{e:En}{i j:Int}:g2 yo e [.d (.int i),.d (.int j)]=some (.d (.int (min i j))):=by
  show some (Rv.d (.int (if j < i then j else i)))=_
  congr 3
  split<;>lia
theorem fy{e:En}{i j:Int}:g2 xb e [.d (.int i),.d (.int j)]=some (.d (.int (max i j))):=by
  show some (Rv.d (.int (if j > i then j else i)))=_
  congr 3
  split<;>lia
theorem fC{e:En}{i:Int}:DB e (.d (.int i))=some (.d (.int (-i))):=rfl
theorem dU{e:En}{b:Bool}:g1 pz e [.d (.bool b)]=some (.d (.int (if b then 1 else 0))):=rfl
theorem fm{e:En}{i:Int}:g1 wY e [.d (.int i)]=some (.d (.int i.natAbs)):=by
  show some (Rv.d (.int (if i < 0 then -i else i)))=_
  congr 3
  split<;>lia
theorem lB{j:Int}(h1:0 < j)(h2:j < 2 ^ 64):Bt 8000 j:=Bt.mono (m:=64) (by unfold Bt;lia) (by decide)
theorem gy{α:Type}{xs:List α}{i:Int}(h0:0≤i)(h:i < xs.length):atI xs i=xs[i.toNat]?:=by
  unfold atI Gs
  rw [if_pos h0,if_pos h];rfl
theorem sL{e:En}{i:Nat}{xs:List MT}{neg:Bool}(h:e[i]?=some (some (.l xs)))(hs:NI (.list xs)=true):bj neg e (.s i) (.l [])=some (.d (.bool (if neg then !xs.isEmpty else xs.isEmpty))):=by
  unfold bj
  simp only [gN,h,Nv,hs]
  have h0:NI (.list [])=true:=by simp [NI,NR,Ox,Oj,OQ]
  rw [h0]
  cases xs<;>simp [Oy,PyData.eqvAll]
theorem mw(ns:List Int):NI (.list (ns.map .int))=true∧NI (.tuple (ns.map .int))=true:=by
  have h1:Ox (ns.map PyData.int)=true:=by
    induction ns with
    | nil=>rfl
    | cons n r ih=>simp [Ox,NR,ih]
  have h2:OQ (ns.map PyData.int)=0:=by
    clear h1
    induction ns with
    | nil=>rfl
    | cons n r ih=>simp [OQ,Oj,ih]
  constructor<;>simp [NI,NR,Oj,h1,h2]
theorem jd{own:i5}{g:FG}{f:FS}(P:Nat→En→Prop):∀(items:List MT) (k:Nat) (e:En),(∀i x e,items[i]?=some x→P (k+i) e→∃e1 e2,g x e=some e1∧f e1=some (.nx e2)∧keeps own e2∧P (k+i+1) e2)→P k e→∃e',jJ own g f items e=some (.nx e')∧P (k+items.length) e'
  | [],k,e,_,h=>⟨e,rfl,h⟩
  | x::r,k,e,hs,h=>by
    obtain⟨e1,e2,h1,h2,h3,h4⟩:=hs 0 x e rfl h
    obtain⟨e',h5,h6⟩:=jd P r (k+1) e2 (fun i y e hy hp=>by
      have:=hs (i+1) y e (by simpa using hy) (by rw [show k+(i+1)=k+1+i by lia];exact hp)
      rw [show k+(i+1)+1=k+1+i+1 by lia] at this
      exact this) h4
    refine⟨e',?_,by rw [OU,show k+(r.length+1)=k+1+r.length by lia];exact h6⟩
    unfold jJ
    simp only [h1,h2,Nv,if_pos h3]
    exact h5
theorem df{e:En}:keeps [] e:=fun _ h=>by cases h
theorem jG{W:List Nat}{fi:FI}{g:FG}{f:FS}{e e1:En}{items:List MT}(h:fi e=some (items,[],e1)):gE W fi g f e=jJ [] g f items e1:=by
  unfold gE;rw [h];rfl
theorem iN{lo:Int}{n i:Nat}{x:MT}(h:(bR lo n)[i]?=some x):x=.int (lo+i)∧i < n:=by
  unfold bR at h
  rw [NF] at h
  obtain⟨k,h1,rfl⟩:=ML h
  obtain⟨h2,h3⟩:=MN h1
  simp at h2 h3
  subst h3
  exact⟨rfl,h2⟩
theorem kb{lo:Int}{n:Nat}:(bR lo n).length=n:=by simp [bR]
theorem dY{fs:FA}{e e1:En}{n:Int}(h:fs e=some ([.d (.int n)],e1))(h1: -1000000≤n)(h2:n≤1000000):cV fs e=some (bR 0 n.toNat,[],e1):=by
  unfold cV;rw [h]
  have:zU n=true:=by unfold zU;rw [decide_eq_true h1,decide_eq_true h2];rfl
  simp [cq,this]
theorem pd{ft:FT}{f:FS}(P:En→Prop)(μ:En→Nat)(hs:∀e,P e→(∃e1,ft e=some (false,e1)∧True)∨∃e1 e2,ft e=some (true,e1)∧f e1=some (.nx e2)∧P e2∧μ e2 < μ e):
    ∀(n:Nat) (e:En),P e→μ e < n→∃e0 e',iS ft f n e=some (.nx e')∧P e0∧ft e0=some (false,e'):=by
  intro n
  induction n with
  | zero=>intro e _ h;lia
  | succ n ih=>
    intro e hp hm
    rcases hs e hp with ⟨e1,h1,_⟩ | ⟨e1,e2,h1,h2,h3,h4⟩
    · exact⟨e,e1,by unfold iS;rw [h1];rfl,hp,h1⟩
    · obtain⟨e0,e',g1,g2⟩:=ih e2 h3 (by lia)
      exact⟨e0,e',by unfold iS;rw [h1];simp only [Nv,if_true,h2];exact g1,g2⟩
theorem jx{cs:En}{ft:FT}{fe:FE}{b:MT→Bool}{y:MT→MT}:∀(items:List MT) (t:Option Sv) (acc:List MT),(∀x∈items,ft (cs++[some (.d x)])=some (b x,cs++[some (.d x)]))→(∀x∈items,b x=true→fe (cs++[some (.d x)])=some (.d (y x),cs++[some (.d x)]))→
    acc.length+items.length≤1000000→∃t',ja (am cs.length) ft fe items (cs++[t]) acc=some (acc++(items.filter b).map y,cs++[t'])
  | [],t,acc,_,_,_=>⟨t,by simp [ja]⟩
  | x::r,t,acc,h1,h2,hl=>by
    have hg:am cs.length x (cs++[t])=some (cs++[some (.d x)]):=by simp [am]
    have h1x:=h1 x (by simp)
    unfold ja
    rw [hg]
    simp only [Nv,h1x]
    cases hb:b x with
    | true=>
      simp only [if_true,h2 x (by simp) hb,Nv,gM]
      rw [if_pos (by simp at hl;lia)]
      obtain⟨t',ih⟩:=jx (b:=b) (y:=y) r (some (.d x)) (acc++[y x]) (fun z hz=>h1 z (by simp [hz])) (fun z hz=>h2 z (by simp [hz])) (by simp at hl ⊢;lia)
      exact⟨t',by rw [ih];simp [hb]⟩
    | false=>
      simp only [QN,if_false]
      obtain⟨t',ih⟩:=jx (b:=b) (y:=y) r (some (.d x)) acc (fun z hz=>h1 z (by simp [hz])) (fun z hz=>h2 z (by simp [hz])) (by simp at hl;lia)
      exact⟨t',by rw [ih];simp [hb]⟩
theorem vg{cp:List (Nat × Str)}{nT:Nat}{fi:FI}{g:FG}{ft:FT}{fe:FE}{e e1 eo:En}{items out:List MT}(h1:fi e=some (items,[],e1))(h3:ja g ft fe items (sR cp nT e1) []=some (out,eo))(h4:(cp.all fun p=> !xR e1[p.1]?)=true):dI cp nT fi g ft fe e=some (.l out,e1):=by
  unfold dI
  rw [h1]
  simp only [Nv,List.all_nil,if_true,h3]
  have hb:lA cp eo e1=true:=by
    unfold lA
    rw [NQ] at h4 ⊢
    intro p hp
    rw [h4 p hp];rfl
  rw [if_pos hb]
  congr 2
  refine Pu fun i=>?_
  rw [bV]
  match hi:e1[i]? with
  | none=>rfl
  | some none=>rfl
  | some (some (.d x))=>rfl
  | some (some (.n x))=>rfl
  | some (some (.l x))=>
    cases hp:mN cp i with
    | none=>simp [hp]
    | some k=>
      obtain⟨s,hs⟩:=e7 hp
      have:=NQ.mp h4 _ (MR hs)
      simp [hi,xR] at this
theorem nW{fa:FE}{e e1:En}{xs:List MT}(h:fa e=some (.d (.tuple xs),e1)):jK fa e=some (xs,[],e1):=by
  unfold jK;rw [h];rfl
theorem uc{cp:List (Nat × Str)}{nT:Nat}{fi:FI}{g:FG}{ft:FT}{fe:FE}{e e1 cs:En}{t t':En}{items out:List MT}(h1:fi e=some (items,[],e1))(hc:sR cp nT e1=cs++t)(hl:cs.length=cp.length)(h3:ja g ft fe items (sR cp nT e1) []=some (out,cs++t')):dI cp nT fi g ft fe e=some (.l out,e1):=by
  have key:∀i x,e1[i]?=some (some (.l x))→∀k,mN cp i=some k→(cs++t')[k]?=some (some (.l x)):=by
    intro i x hi k hk
    obtain⟨s,hs⟩:=e7 hk
    have hk2:k < cp.length:=(MN hs).1
    have:(sR cp nT e1)[k]?=some (some (.l x)):=by
      unfold sR
      rw [OH (by simpa using hk2),NF,hs]
      simp [hi,Gz]
    rw [hc,OH (by lia)] at this
    rw [OH (by lia)]
    exact this
  unfold dI
  rw [h1]
  simp only [Nv,List.all_nil,if_true,h3]
  have hb:lA cp (cs++t') e1=true:=by
    unfold lA
    rw [NQ]
    intro p hp
    match hi:e1[p.1]? with
    | none=>simp [xR]
    | some none=>simp [xR]
    | some (some (.d x))=>simp [xR]
    | some (some (.n x))=>simp [xR]
    | some (some (.l x))=>
      cases hq:mN cp p.1 with
      | none=>
        unfold mN at hq
        rw [Qx] at hq
        have:=hq p hp
        simp at this
      | some k=>simp [key p.1 x hi k hq,xR]
  rw [if_pos hb]
  congr 2
  refine Pu fun i=>?_
  rw [bV]
  match hi:e1[i]? with
  | none=>rfl
  | some none=>rfl
  | some (some (.d x))=>rfl
  | some (some (.n x))=>rfl
  | some (some (.l x))=>
    cases hp:mN cp i with
    | none=>simp [hp]
    | some k=>simp [hp,key i x hi k hp]
theorem m7{α:Type}{xs:List α}{i:Int}(h0:0≤i)(h1:i < xs.length):∃x∈xs,atI xs i=some x:=by
  rw [gy h0 h1]
  exact⟨xs[i.toNat]'(by lia),Qv _,Ot _⟩
theorem nL{e:En}{xs:List MT}{i:Int}:dM e (.l xs) (.d (.int i))=(atI xs i).map .d:=rfl
theorem gO{e:En}{xs:List MT}{i:Int}:dM e (.d (.tuple xs)) (.d (.int i))=(atI xs i).map .d:=rfl
theorem j2{e:En}{xs:List MT}{i:Int}:dM e (.d (.list xs)) (.d (.int i))=(atI xs i).map .d:=rfl
theorem nM{e:En}{j:Nat}{xs:List MT}{i:Int}(h:e[j]?=some (some (.l xs))):dM e (.s j) (.d (.int i))=(atI xs i).map .d:=by
  simp [dM,eH,h,cq]
theorem j5{e:En}{xs:List MT}:g1 gb e [.d (.tuple xs)]=some (.d (.int xs.length)):=rfl
theorem iz{e:En}{xs:List MT}:g1 gb e [.d (.list xs)]=some (.d (.int xs.length)):=rfl
theorem j3{e:En}{xs:List MT}:g1 gb e [.l xs]=some (.d (.int xs.length)):=rfl
theorem j4{e:En}{j:Nat}{xs:List MT}(h:e[j]?=some (some (.l xs))):g1 gb e [.s j]=some (.d (.int xs.length)):=by
  simp [g1,gb,eH,h]
theorem fF{e:En}{j:Nat}{xs:List MT}(h:e[j]?=some (some (.l xs))):g1 dz e [.s j]=some (.d (.tuple xs)):=by
  simp [g1,dz,eH,h]
theorem fD{e:En}{xs:List MT}:g1 dz e [.l xs]=some (.d (.tuple xs)):=rfl
theorem dX{e:En}{xs:List MT}:g1 dz e [.d (.list xs)]=some (.d (.tuple xs)):=rfl
theorem fH{e:En}{xs:List MT}:g1 dz e [.d (.tuple xs)]=some (.d (.tuple xs)):=rfl
theorem nR{e:En}{xs:List MT}{lo hi:Option Int}:Gc e (.d (.tuple xs)) lo hi=some (.d (.tuple (jY xs lo hi))):=rfl
theorem lC{e:En}{xs ys:List MT}(h:xs.length+ys.length≤1000000):cx e (.d (.tuple xs)) (.d (.tuple ys))=some (.d (.tuple (xs++ys))):=by
  simp [cx,Aw,vF,gI,cq,nK,eH,h]
theorem Dz{e:En}{i j:Int}(h:j≠0):bu e (.d (.int i)) (.d (.int j))=some (.d (.int (i.fmod j))):=by
  unfold bu;rw [lD (by simpa using h)]
theorem AW{e:En}{i j:Int}(h:j≠0)(h2:Bt 8000 j):fx e (.d (.int i)) (.d (.int j))=some (.d (.int (i.fdiv j))):=by
  unfold fx;rw [lD (by simp [kl.mpr h2,h])]
theorem kr{e:En}{i j:Int}(h:zt i j=true):uB e (.d (.int i)) (.d (.int j))=some (.d (.int (i ^ j.toNat))):=by
  unfold uB;rw [lD h]
theorem kS:zt 10 18=true:=by decide
theorem jH{f g:FS}{e e1:En}(h:f e=some (.nx e1)):aL f g e=g e1:=by unfold aL;rw [h];rfl
theorem Hb{ft:FT}{f g:FS}{e e1:En}(h:ft e=some (true,e1)):iO ft f g e=f e1:=by unfold iO;rw [h];rfl
theorem Ha{ft:FT}{f g:FS}{e e1:En}(h:ft e=some (false,e1)):iO ft f g e=g e1:=by unfold iO;rw [h];rfl
def CS(i:Nat)(e:En):Nat:=match e[i]? with
  | some (some (.l xs))=>xs.length
  | _=>0
def yS(i:Nat)(e:En):Nat:=match e[i]? with
  | some (some (.d (.int k)))=>k.natAbs
  | _=>0
theorem vN{n m:Nat}(h:n < 2 ^ m)(hm:m≤4200):n < 2 ^ 4200:=NS h (Qp (by decide) hm)
theorem jW{α:Type}{a:α}{r:List α}:atI (a::r) 0=some a:=by
  rw [gy (by decide) (by simp)];rfl
theorem ff{α:Type}{a b:α}{r:List α}:atI (a::b::r) 1=some b:=by
  rw [gy (by decide) (by simp;lia)];rfl
theorem i6{α:Type}{a b c:α}{r:List α}:atI (a::b::c::r) 2=some c:=by
  rw [gy (by decide) (by simp;lia)];rfl
theorem i7{α:Type}{a b c d:α}{r:List α}:atI (a::b::c::d::r) 3=some d:=by
  rw [gy (by decide) (by simp;lia)];rfl
theorem gG{W:aU}{k:Int}(h:iT W k):atI (W.ties.map cj) k=some (cj (W.tie k)):=by
  rw [gy h.1 (by rw [NC];exact h.2),NF,h.get];rfl
theorem r6{ns:List Int}{k:Int}(h0:0≤k)(h1:k < (ns.length:Int)):atI (ns.map PyData.int) k=some (.int (ns.getD k.toNat 0)):=by
  rw [gy h0 (by rw [NC];exact h1),NF]
  have:k.toNat < ns.length:=by lia
  simp [this]
theorem ng{a b c d:MT}:jY [a,b,c,d] none (some 2)=[a,b]:=rfl
theorem dS{a b c d:MT}:jY [a,b,c,d] (some 2) none=[c,d]:=rfl
theorem dQ{a b c:MT}:jY [a,b,c] (some 1) none=[b,c]:=rfl
theorem sr(ns:List Int):Ox (ns.map PyData.int)=true:=by
  induction ns with
  | nil=>rfl
  | cons n r ih=>simp [Ox,NR,ih]
theorem rZ{x:Int}:∀(ns:List Int),((ns.map PyData.int).any fun y=>Oy y (.int x))=ns.contains x
  | []=>rfl
  | n::r=>by
    rw [ND,Qy,rZ r,List.contains_cons]
    show(n==x || _)=_
    rw [show(n==x)=(x==n) by rw [Qu];simp;exact eq_comm]
theorem eu{e:En}{x:Int}{ns:List Int}{neg:Bool}:uj neg e (.d (.int x)) (.d (.tuple (ns.map .int)))=some (.d (.bool (if neg then !ns.contains x else ns.contains x))):=by
  unfold uj
  simp only [gN,eH,Nv,sr,rZ]
  simp [NR,Oj]
theorem iw{e:En}{x a b:Int}{neg:Bool}:uj neg e (.d (.int x)) (.d (.tuple [.int a,.int b]))=some (.d (.bool (if neg then !(a==x || b==x) else(a==x || b==x)))):=by
  have h:=eu (e:=e) (x:=x) (ns:=[a,b]) (neg:=neg)
  simp only [ND,Oe] at h
  rw [h]
  have:[a,b].contains x=(a==x || b==x):=by
    simp only [List.contains_cons,List.contains_nil,Bool.or_false]
    rw [show(x==a)=(a==x) by rw [Qu];simp;exact eq_comm,show(x==b)=(b==x) by rw [Qu];simp;exact eq_comm]
  rw [this]
theorem iB{e:En}{ns:List Int}(h:ns.length < 64):g1 dW e [.d (.tuple (ns.map .int))]=some (.l ((hU ns).map .int)):=by
  simp [g1,dW,eH,p5,h]
def Az(p:Int→Bool):MT→Bool
  | .int k=>p k
  | _=>false
theorem dw(W:aU):aR W=.tuple [.int W.things,.tuple (W.ties.map cj),.tuple (W.pat.map .int),.int W.asks]:=rfl
def Sh(n:Nat)(d:MT):Prop:=d.canLay0=true∧d.depth≤n
theorem Sh.mono{n m:Nat}{d:MT}(h:Sh n d)(l:n≤m):Sh m d:=⟨h.1,NG h.2 l⟩
theorem Sh.ok{n:Nat}{d:MT}(h:Sh n d)(l:n≤64):NI d=true:=by
  unfold NI;rw [h.1,decide_eq_true (NG h.2 l)];rfl
theorem Sh.int{k:Int}:Sh 2 (.int k):=⟨by simp [NR],by simp [Oj]⟩
theorem Sh.all{n:Nat}:∀{ds:List MT},(∀d∈ds,Sh n d)→Ox ds=true∧OQ ds≤n
  | [],_=>⟨rfl,by simp [OQ]⟩
  | d::r,h=>by
    obtain⟨a1,a2⟩:=h d (by simp)
    obtain⟨b1,b2⟩:=Sh.all (ds:=r) fun x hx=>h x (by simp [hx])
    exact⟨by simp [Ox,a1,b1],by simp only [OQ];lia⟩
theorem Sh.tup{n:Nat}{ds:List MT}(h:∀d∈ds,Sh n d):Sh (n+2) (.tuple ds):=by
  obtain⟨b1,b2⟩:=Sh.all h
  exact⟨by simp [NR,b1],by simp only [Oj];lia⟩
theorem Sh.ints{ns:List Int}:Sh 4 (.tuple (ns.map .int)):=Sh.tup (n:=2) fun d hd=>by
  obtain⟨k,_,rfl⟩:=OI.mp hd
  exact Sh.int
theorem Sh.tie{t:lw}:Sh 6 (cj t):=Sh.tup (n:=4) fun d hd=>by
  simp only [Oz,Pv,or_false] at hd
  rcases hd with rfl | rfl | rfl | rfl
  · exact Sh.int.mono (by decide)
  · exact Sh.int.mono (by decide)
  · exact Sh.ints (ns:=[t.top,t.bot])
  · exact Sh.int.mono (by decide)
theorem tu:∀(n:Nat) (l:List Int),l.Nodup→(∀k∈l,0≤k∧k < (n:Int))→l.length≤n
  | 0,l,_,h=>by
    cases l with
    | nil=>simp
    | cons a r=>have:=h a (by simp);lia
  | n+1,l,hd,h=>by
    have ih:=tu n (l.erase (n:Int)) (hd.erase _) fun k hk=>by
      obtain⟨h1,h2⟩:=hd.mem_erase_iff.mp hk
      have:=h k h2
      lia
    by_cases c:(n:Int)∈l
    · rw [List.length_erase_of_mem c] at ih;lia
    · rw [List.erase_of_not_mem c] at ih;lia
abbrev Std:=List Int × List Int
structure ic (W:aU) (s:Std):Prop where
  inw:∀k∈s.1,iT W k
  nd:s.1.Nodup
  tk:s.2.length≤2*s.1.length
  th:∀t∈s.2,0≤t∧t < W.things
def nxt(W:aU)(s:Std)(k:Int)(b:Bool):Std:=(aU.askd s.1 k,W.took s.2 k b)
theorem ic.len{W:aU}{s:Std}(h:ic W s):s.1.length≤W.ties.length:=tu _ _ h.nd fun k hk=>h.inw k hk
theorem ic.first(W:aU):ic W ([],[]):=⟨fun k h=>(by cases h),List.nodup_nil,Nn _,fun k h=>(by cases h)⟩
theorem m6{a:List Int}{k:Int}:(aU.askd a k).length=a.length+1:=by unfold aU.askd;rw [qo];simp
theorem ic.nxt{W:aU}{s:Std}{k:Int}(b:Bool)(ok:W.Ok)(h:ic W s)(hk:iT W k)(hn:k∉s.1):ic W (nxt W s k b):=by
  refine⟨fun j hj=>?_,?_,?_,?_⟩
  · have:=qp.mp hj
    rcases MO this with z | z
    · exact h.inw j z
    · simp at z;rw [z];exact hk
  · refine(kd _).nodup_iff.mpr ?_
    rw [List.nodup_append]
    refine⟨h.nd,by simp,fun a ha b hb=>?_⟩
    simp at hb
    rintro rfl
    exact hn (hb ▸ ha)
  · have:=h.tk
    show(W.took s.2 k b).length≤2*(aU.askd s.1 k).length
    rw [m6]
    unfold aU.took
    split
    · rw [qo];simp;lia
    · lia
  · intro t ht
    have o:=hk.ok ok
    have:=o.o0;have:=o.o1;have:=o.o2
    change t∈W.took s.2 k b at ht
    unfold aU.took at ht
    split at ht
    · rcases MO (qp.mp ht) with z | z
      · exact h.th t z
      · simp at z
        rcases z with rfl | rfl<;>lia
    · exact h.th t ht
structure Nd where
  tie:Int
  yes:Int
  no:Int
def Dh(W:aU)(n:Nat)(S:Nat→Std)(i:Nat)(k:Int)(b:Bool)(l:Int):Prop:=l= -1∨(0≤l∧l < (n:Int)∧S l.toNat=nxt W (S i) k b)
structure Ie (W:aU) (n:Nat) (S:Nat→Std) (i:Nat) (x:Nd):Prop where
  tie:iT W x.tie
  st:ic W (S i)
  may:W.may (S i).1 (S i).2 x.tie=true
  yes:Dh W n S i x.tie true x.yes
  no:Dh W n S i x.tie false x.no
def Io(W:aU)(T:List Nd)(S:Nat→Std):Prop:=∀(i:Nat) (x:Nd),T[i]?=some x→Ie W T.length S i x
structure Wt where
  st:Std
  par:Int
  side:Int
structure JI (W:aU) (T:List Nd) (S:Nat→Std) (ws:List Wt):Prop where
  tr:Io W T S
  wt:∀w∈ws,ic W w.st∧(w.par= -1∨∃(p:Nat) (x:Nd),w.par=(p:Int)∧T[p]?=some x∧((w.side=0∧w.st=L2.nxt W (S p) x.tie true)∨(w.side=1∧w.st=L2.nxt W (S p) x.tie false)))
  side:∀w∈ws,w.side=0∨w.side=1
theorem zY{W:List Nat}{fi:FI}{g:FG}{f:FS}{e e1:En}{items:List MT}{own:i5}(h:fi e=some (items,own,e1))(ho:(own.all fun q=> !W.contains q.1)=true):gE W fi g f e=jJ own g f items e1:=by
  unfold gE;rw [h];simp only [Nv,ho,if_true]
def nm(nums:List Int)(l:Int):Int:=(atI nums l).getD (-1)
structure Ji (order:List Int) (n:Nat) (nums:List Int):Prop where
  len:nums.length=n+1
  top:nums[n]?=some (-1)
  at':∀(j:Nat) (v:Int),j < n→nums[j]?=some v→v= -1∨∃p:Nat,v=(p:Int)∧order[p]?=some (j:Int)
def yT(T:List Nd)(w:Int):Nd:=T.getD w.toNat ⟨0,0,0⟩
structure JS (S:Nat→Std) (n:Nat) (ss:List Std):Prop where
  len:ss.length=n
  at':∀(j:Nat) (s:Std),ss[j]?=some s→s.1.length≤(S j).1.length∧s.2.length≤2*s.1.length∧(∀k∈s.1,0≤k∧k < 16)∧∀t∈s.2,0≤t∧t < 12
theorem aO(s:String):NK (MW s)=true:=by
  rw [Str.ofString_eq_toList]
  unfold NK
  simp only [Nx,NC]
  rw [show(Pw Char.toNat s.toList).toArray.all (fun a=>decide (a < 1114112)) 0 s.toList.length=(Pw Char.toNat s.toList).all (fun a=>decide (a < 1114112)) by simp]
  rw [List.all_map,NQ]
  intro c _
  show decide (c.toNat < 1114112)=true
  rw [decide_eq_true_eq]
  have:=c.valid
  unfold UInt32.isValidChar Nat.isValidChar at this
  show c.val.toNat < _
  lia
theorem qq{a b:Str}(h1:NK a=true)(h2:NK b=true):NK (a++b)=true:=by
  unfold NK at*
  rw [show(a++b).cps=a.cps++b.cps from rfl]
  simp only [Array.all_append,h1,h2,Bool.and_self]
structure Sz (n dep:Nat) (d:MT):Prop where
  fl:CH d=true
  sh:d.showable=true
  dp:d.depth≤dep
  ln:d.shown.length≤n
  so:NK d.shown=true
theorem eR{e:En}{s:Str}(h:NK s=true):bj false e (.d (.str s)) (.d (.str s))=some (.d (.bool true)):=by
  simp [bj,gN,NI,NR,Oj,Oy,h]
def dR(p:Int × Bool):MT:=.tuple [.int p.1,.bool p.2]
def rn(T:List Nd)(ans:List Bool):Nat→Int→List (Int × Bool)
  | 0,_=>[]
  | f+1,at'=>if at' < 0 then [] else((yT T at').tie,ans.getD (yT T at').tie.toNat false)::rn T ans f (if ans.getD (yT T at').tie.toNat false=true then(yT T at').yes else(yT T at').no)
def rt(T:List Nd):Int:=if T.length=0 then -1 else 0
structure Jl (W:aU) (T:List Nd) (S:Nat→Std) (ans:List Bool) (r:List (Int × Bool)) (a:Int):Prop where
  at':a= -1∨(0≤a∧a < (T.length:Int)∧r.length≤(S a.toNat).1.length)
  eq:r++rn T ans (17 - r.length) a=rn T ans 17 (rt T)
  len:r.length≤16
  inw:∀p∈r,iT W p.1
abbrev Fr:=Int × Int
def tm(a b:Fr):Fr:=eJ (a.1*b.1) (a.2*b.2)
def pl(a b:Fr):Fr:=eJ (a.1*b.2+b.1*a.2) (a.2*b.2)
structure lz (M:Int) (f:Fr):Prop where
  pos:0 < f.2
  lo:0≤f.1
  hi:f.1≤f.2
  dv:f.2 ∣ M
structure FF (M i:Int) (f:Fr):Prop where
  pos:0 < f.2
  lo:0≤f.1
  hi:f.1≤i*f.2
  dv:f.2 ∣ M
def bp(W:aU):List Int→Int
  | []=>1
  | k::r=>(W.tie k).bot*bp W r
def F8(W:aU):Int:=bp W W.rng
def ch(W:aU)(k:Int)(b:Bool):Fr:=if b then((W.tie k).top,(W.tie k).bot) else((W.tie k).bot - (W.tie k).top,(W.tie k).bot)
structure JR (W:aU) (S:Nat→Std) (n:Nat) (rs:List Fr):Prop where
  len:rs.length=n
  at':∀(j:Nat) (f:Fr),rs[j]?=some f→lz (bp W (S j).1) f
structure JK (W:aU) (i:Nat) (ss:List Fr):Prop where
  len:ss.length=W.ties.length
  at':∀(j:Nat) (f:Fr),ss[j]?=some f→FF (F8 W) (i:Int) f
def Fz(sc:Nz)(x:Str):Bool:=match sc.names.lookup x with
  | some .local=>true
  | some .cell=>true
  | some .free=>true
  | _=>false
theorem Co{sc:Nz}{x:Str}(h:Fz sc x=true):FU sc x:=by
  unfold Fz at h
  unfold FU
  split at h
  · rename_i e;exact .inl e
  · rename_i e;exact .inr (.inl e)
  · rename_i e;exact .inr (.inr e)
  · cases h
section
variable{X:Cx}{K:MS}
theorem qw(i:Nat){x:Str}{pos:Pos}(hN:X.N[i]?=some x)(hv:Fz X.env.scope x=true)(hd:((x==("__debug__":Str)) || (x==("__classdict__":Str)))=false):PE X (.Name x pos) (fE K (ab i)):=qv i hN (Co hv) (Bool.or_eq_false_iff.mp hd).1 (Bool.or_eq_false_iff.mp hd).2
end
section
variable{X:Cx}{tg a b c:MU}{ta:TA}{p pos p2 pos2:Pos}
end
section
variable{K:MS}{σ:L2.St}
end
section
variable{X:Cx}{K:MS}{tg a b c:MU}{fs:FA}{pos p p2 pos2:Pos}
end
section
variable(P:MZ)(w:MV)
end
section
variable{P:MZ}{w:MV}{H H':Hp}{h h':MY}{a:xM}{o:HO}
end
section
variable{P:MZ}{w:MV}{H:Hp}{h h':MY}{x e:xM}{o':HO}
end
section
variable{fs fs' ex ex':List xM}{H H1 H2:Hp}{h h1 h2 h':MY}{a x e:xM}{o:HO}
end
section
variable{X:Cx}{pins:List (xM × Obj)}{σ:List (Option V)}{H H':Hp}{s:MP}{h':MY}
end
section
variable{X:Cx}
variable{a b:MU}{ta tb:TE}{pos:Pos}
variable{tA tB':TT}{cf:List MU}
end
section
variable{X:Cx}{pins:List (xM × Obj)}{σ:St}{H:Hp}{s:MP}{a:xM}{xs ys:List V}
end
section
variable{X:Cx}{pins:List (xM × Obj)}{σ:St}{H:Hp}{s:MP}{E:Kg→MP→Prop}
end
section
variable{X:Cx}{st:Na}{cf:List Na}{t u:TS}{e:MU}{te:TE}{pos:Pos}
end
section
variable{X:Cx}{pos:Pos}
end
section
variable{X:Cx}{pos:Pos}
end
section
variable{X:Cx}{tg:MU}
end
section
variable{X:Cx}{a b c:MU}{ta tb tc:TE}{pos:Pos}
end
section
variable{X:Cx}{a b c:MU}{ta tb tc:TE}{pos:Pos}
end
section
variable{prog:MZ}{w:MV}{A:Nb}{E:Kg→MP→Prop}{s:MP}{K:MS}{x dx C f:xM}{mA:Str→Option Kg}{name:Str}{v:Kg}
end
section
variable{P:MZ}{w:MV}{H H':Hp}{h h':MY}{a C dx:xM}{fs fs':List (Str × V)}
end
section
variable{X:Cx}{pins:List (xM × Obj)}{σ:St}{H:Hp}{s:MP}{a C dx:xM}{fs:List (Str × V)}{f:Str}{v:V}{A:Nb}{E:Kg→MP→Prop}
end
section
variable{X:Cx}{o e value:MU}{f:Str}{pos pos' tpos:Pos}{ta tv:TE}
end
section
variable{X:Cx}{pins:List (xM × Obj)}{σ:St}{H:Hp}{s:MP}{A:Nb}{E:Kg→MP→Prop}{Q:Kg→MP→Prop}{c:Kg}{b:Bool}
end
section
variable{X:Cx}{e:MU}{es:List MU}{te:TE}{t:TA}{pos:Pos}
end
section
variable{X:Cx}{pins:List (xM × Obj)}{σ:St}{H:Hp}{s s':MP}
end
section
variable{X:Cx}{CX:rX}{k:Nat}{f C:xM}{fd:Nj}{ps:List Str}{sp:Sp}{dvs:List V}{ds:List Kg}{E:XK}{x m:Str}{p pos apos:Pos}{e o:MU}{es:List MU}{ta:TE}{t:TA}
end
section
variable{X:Cx}{CX:rX}{k:Nat}{f C:xM}{fd:Nj}{ps ks:List Str}{sp:Sp}{E:XK}{x m:Str}{p pos apos kpos:Pos}{e o:MU}{es:List MU}{kws:List NV}{te ta:TE}{t tk:TA}{nm:Option Str}
variable{g:List Kg→List Kg→List Kg}{gV:List V→List V→List V}
end
section
variable{X:Cx}{x:Str}{p pos:Pos}{e:MU}{es:List MU}{t:TA}{id T:String}{r:List V→Hp→VK→Prop}
end
section
variable{κ:Type}[DecidableEq κ]
def GT(kvs:List (κ × V))(k:κ)(v:V):List (κ × V):=
  if (kvs.any fun kv=>decide (kv.1=k))=true then kvs.map (fun kv=>if kv.1=k then(kv.1,v) else kv) else kvs++[(k,v)]
end
section
variable{P:MZ}{w:MV}{H:Hp}{h:MY}{a:xM}
end
section
variable{X:Cx}{pins:List (xM × Obj)}{σ:St}{H:Hp}{s:MP}{a:xM}{y v:V}{u r:Kg}{o:Option V}{A:Nb}{E:Kg→MP→Prop}
end
section
variable{X:Cx}{pins:List (xM × Obj)}{σ:St}{H:Hp}{s:MP}{a:xM}{kvs:List (iZ × V)}{k:iZ}{u:Kg}{A:Nb}{E:Kg→MP→Prop}
end
def Ig(i:MU):Prop:=∀ov iv,subscripted i false ov iv=operate [ov,iv] (getItem ov iv)
theorem B_{prog:MZ}{w:MV}{A:Nb}{E:Kg→MP→Prop}{s:MP}{env:Env}{value slice:MU}{pos:Pos}{T id:String}{Q:Kg→MP→Prop}
    (hl:typeLookup (.type T) "__getitem__"=pure (some (.builtin id)))(hs:Ig slice)
    (h:Nc (Ng prog w) A (Nh value env) (fun o s₁=>Nc (Ng prog w) A (Nh slice env) (fun i s₂=>s₂.TypeIs o T∧Nc (Ng prog w) A (getItem o i) Q E s₂) E s₁) E s):
    Nc (Ng prog w) A (Nh (.Subscript value slice pos) env) Q E s:=by
  refine Subscript_ (On h (fun o s₁ h₁=>On h₁ (fun i s₂ h₂=>?_) fun _ _ x=>x) fun _ _ x=>x)
  obtain⟨hT,h₂⟩:=h₂
  unfold subscriptTail
  refine Ni ?_
  rw [getitemInPython_of_ne hT.not_modules]
  refine Ni (wpAny_specialOf hT hl ?_)
  have fin:Nc (Ng prog w) A (subscripted slice false o i) (fun r s₃=>Nc (Ng prog w) A (letTemporaryGo value o r >>= fun _=>pure r) Q E s₃) E s₂:=by
    rw [hs o i]
    exact wpAny_operating (On h₂ (fun r s₃ h₃=>Ni (wpAny_letTemporaryGo (Nm h₃))) fun _ _ x=>x)
  first
    | exact Nm (Ni fin)
    | exact Ni (Nm (Ni fin))
    | exact Ni fin
section
variable{X:Cx}{o i e value:MU}{pos pos' tpos:Pos}{td ty tv:TE}
end
section
variable{X:Cx}{pos:Pos}
end
section
variable{X:Cx}{pins:List (xM × Obj)}{σ:St}{H:Hp}{s:MP}{a:xM}{y d:V}{u r:Kg}{o:Option V}{A:Nb}{E:Kg→MP→Prop}
end
section
variable{X:Cx}{o e f:MU}{apos cpos:Pos}{td ty tx:TE}
end
section
variable{X:Cx}{pins:List (xM × Obj)}{σ:St}{H:Hp}{s:MP}{a:xM}{kvs:List (iZ × V)}{A:Nb}{E:Kg→MP→Prop}
end
section
variable{X:Cx}{pins:List (xM × Obj)}{σ:St}{H:Hp}{s:MP}{a:xM}{y:V}{u:Kg}{A:Nb}{E:Kg→MP→Prop}
end
end L2
namespace Att
open PySem PySem.W PySem.Calls PyProof.Rows
section
variable{prog:MZ}{w:MV}{A:Nb}{E:Kg→MP→Prop}{s:MP}{K:Frag}
end
end Att
namespace L2
open PySem PySem.Spec PyProof.Rows
section
variable{P:MZ}{w:MV}{K:MS}{mg:Str→Option Kg}{base:MY}
end
section
variable{X:Cx}
end
section
variable{κ:Type}[DecidableEq κ]
end
def Hy:MT→String
  | .none=>"NoneType"
  | .bool _=>"bool"
  | .int _=>"int"
  | .str _=>"str"
  | .tuple _=>"tuple"
  | .list _=>"list"
  | .dict _=>"dict"
def Fk(t T:String):Bool:=t==T || (t=="bool"&&T=="int")
def Gm(T:String)(d:MT):Bool:=Fk (Hy d) T
def xa(T:String):En→Rv→Option Rv:=fun _ r=>match r with
  | .d x=>some (.d (.bool (Gm T x)))
  | _=>some (.d (.bool (Gm T (.list []))))
section
variable{X:Cx}{K:MS}{a:MU}{fa:FE}{pos p p2:Pos}
def Ip(K:MS)(H:Hp):V→String→Prop
  | .non,t=>t="NoneType"
  | .bl _,t=>t="bool"
  | .int _,t=>t="int"
  | .str _,t=>t="str"
  | .ref a,t=>(t="tuple"∧∃xs,dN K H a xs)∨(t="list"∧∃xs,gF K H a xs)∨(t="dict"∧∃m,H a=some (.dK m))
  | _,_=>False
theorem ya{T:String}:cM X (.builtin "isinstance") (fun xs H Q=>∃x t b,xs=[x,.ty T]∧Ip X.K H x t∧PySem.W.kitOne X.K (.type t) (.type T)=some b∧Q (.bl b) H):=by
  intro pins s σ H xs us Q I r h
  obtain⟨x,t,b,rfl,ht,hk,q⟩:=h
  obtain⟨u1,u2,rfl,r1,r2⟩:∃u1 u2,us=[u1,u2]∧bF x u1∧bF (.ty T) u2:=by
    cases r with
    | cons p q=>cases q with
      | cons p' q'=>cases q';exact⟨_,_,rfl,p,p'⟩
  cases r2
  have q':∀tk,EP X pins σ Q (.bool b) {s with toks:=tk}:=fun tk=>⟨.bl b,H,I.tok _,rfl,q⟩
  cases x with
  | non=>cases (show u1=Value.none from r1);cases (show t=_ from ht);exact Px PySem.W.kitx_none I.kIn PD hk (fun z=>nomatch z) q'
  | bl y=>cases (show u1=Value.bool y from r1);cases (show t=_ from ht);exact Px PySem.W.kitx_bool I.kIn PD hk (fun z=>nomatch z) q'
  | int i=>obtain⟨tt,rfl⟩:=r1;cases (show t=_ from ht);exact Px PySem.W.kitx_int I.kIn PD hk (fun z=>nomatch z) q'
  | str y=>obtain⟨tt,rfl⟩:=r1;cases (show t=_ from ht);exact Px PySem.W.kitx_str I.kIn PD hk (fun z=>nomatch z) q'
  | ref a=>
    cases (show u1=Value.ref a from r1)
    rcases ht with ⟨rfl,xs,hs⟩ | ⟨rfl,xs,hs⟩ | ⟨rfl,m,hs⟩
    · obtain⟨its,rv,pl,hz⟩:=I.tuple hs
      obtain⟨o,h1,h2⟩:=pl.typeIs
      exact Px PySem.W.kitx_tuple I.kIn ⟨o,h1,h2⟩ hk (fun z=>nomatch z) q'
    · obtain⟨its,rv,pl,hz⟩:=I.list hs
      obtain⟨o,h1,h2⟩:=pl.isList.typeIs
      exact Px PySem.W.kitx_list I.kIn ⟨o,h1,h2⟩ hk (fun z=>nomatch z) q'
    · obtain⟨_,_,vs,_,pp⟩:=(show eM X.prog X.w H s.heap a (.dK m) from I.hok a _ hs)
      obtain⟨o,es,ep,h1,h2,_⟩:=pp
      exact Px PySem.W.kitx_dict I.kIn ⟨o,h1,h2.1⟩ hk (fun z=>nomatch z) q'
  | _=>exact Oo ht
theorem zl{x:Str}{T:String}(hg:Gl X x)(hm:X.mg x=none)(hv:OA x=some (.type T))(hn:x≠"__name__")(hd:(x==("__debug__":Str))=false):PE X (.Name x pos) (tC (.ty T)):=fun pins s σ H Q I h=>
  rc I hg hm hv ⟨.ty T,H,I,rfl,h⟩ hn hd
theorem DT{t T:String}(ht:t∈["NoneType","bool","int","str","tuple","list","dict"])(hT:T∈["int","bool","tuple","str"]):PySem.W.kitOne K (.type t) (.type T)=some (Fk t T):=by
  simp only [Oz,Pv,or_false] at ht hT
  rcases ht with rfl | rfl | rfl | rfl | rfl | rfl | rfl<;>rcases hT with rfl | rfl | rfl | rfl<;>rfl
theorem Cg(d:MT):Hy d∈["NoneType","bool","int","str","tuple","list","dict"]:=by cases d<;>simp [Hy]
theorem Fu{F H:Hp}{d:MT}{v:V}(h:DA K F d v)(s:ao F H):Ip K H v (Hy d):=by
  have h:=DA.mono s h
  cases d with
  | none=>rw [ee.mp h];rfl
  | bool b=>rw [cT.mp h];rfl
  | int b=>rw [bO.mp h];rfl
  | str b=>rw [ik.mp h];rfl
  | tuple ds=>obtain⟨a,xs,rfl,h1,_⟩:=c9.mp h;exact .inl ⟨rfl,xs,h1⟩
  | list ds=>obtain⟨a,xs,rfl,h1,_⟩:=eI.mp h;exact .inr (.inl ⟨rfl,xs,h1⟩)
  | dict m=>simp only [DA] at h;obtain⟨a,m,rfl,h1,_⟩:=h;exact .inr (.inr ⟨rfl,_,h1⟩)
theorem AS{f:FE}{σ:L2.St}{H:Hp}{Q Q':VK}(h:fE K f σ H Q)(m:∀v H1,Q v H1→Q' v H1):fE K f σ H Q':=by
  obtain⟨F,e,r,e',R,hf,q⟩:=h
  exact⟨F,e,r,e',R,hf,fun F' H' v x R' A=>m _ _ (q F' H' v x R' A)⟩
theorem Gn{T:String}:FJ K (fun v H Q=>∃t,t∈["NoneType","bool","int","str","tuple","list","dict"]∧Ip K H v t∧Q (.bl (Fk t T)) H) (xa T):=by
  intro σ H0 F H e x z v Q R A hg q
  unfold xa at hg
  cases x with
  | d d=>
    cases hg
    exact⟨Hy d,Cg d,Fu A R.sm,q F H _ (cS.refl _ _ _ _) R dF⟩
  | l xs=>
    cases hg
    obtain⟨l,vs,rfl,h1,h2,h3,h4⟩:=A
    exact⟨"list",by simp,.inr (.inl ⟨rfl,vs,gF.of h3⟩),q F H _ (cS.refl _ _ _ _) R dF⟩
  | s i=>
    cases hg
    obtain⟨h1,xs,h2⟩:=A
    obtain⟨l,vs,h3,h4,h5,h6⟩:=R.own i xs h2
    rw [h1] at h3;cases h3
    exact⟨"list",by simp,.inr (.inl ⟨rfl,vs,gF.of h5⟩),q F H _ (cS.refl _ _ _ _) R dF⟩
theorem C0{x:Str}{T:String}(hK:X.K=K)(hT:T∈["int","bool","tuple","str"])(hg:Gl X "isinstance")(hm:X.mg "isinstance"=none)(hgT:Gl X x)(hmT:X.mg x=none)(Jp:OA x=some (.type T))(hn:x≠"__name__")(hd:(x==("__debug__":Str))=false)
    (ha:PE X a (fE K fa))(he:Nf [a,.Name x p2] X.env=(false,Nh a X.env)::Nf [.Name x p2] X.env)(hpl:(Nr pos (Nf [.Name x p2] X.env)).any (·.1)=false):
    PE X (.Call (.Name "isinstance" p) [a,.Name x p2] [] pos) (fE K (uh (xa T) fa)):=
  (ou (ya (T:=T)) hg hm boot_isinstance (kR ha (kR (zl hgT hmT Jp hn hd) fP) he) (by decide) (by decide) he hpl).mono fun σ H Q h=>by
    subst hK
    have h1:=Am (Gn (T:=T)) h
    refine AS h1 fun v H1 ⟨t,ht,k,q⟩=>?_
    exact⟨v,t,_,rfl,k,DT ht hT,q⟩
end
section
variable{X:Cx}{K:MS}
end
section
variable{X:Cx}{K:MS}{σ:L2.St}{F H:Hp}{e:En}{pos p1 p2:Pos}
end
section
variable{X:Cx}{K:MS}{a b c d:MU}{ta tb tc td:TE}{fa fb fc fd:FE}{pos:Pos}
end
section
variable{X:Cx}{K:MS}{a b:MU}{es:List MU}{fa fb:FE}{fs:FA}{pos p apos:Pos}
def b6:Rv→Option Str
  | .d (.str x)=>some x
  | _=>none
theorem cQ{σ:L2.St}{H0 F H:Hp}{e:En}{r:Rv}{v:V}{x:Str}(h:bZ K σ H0 F H e r v)(q:b6 r=some x):v=.str x:=by
  unfold b6 at q
  split at q
  · cases q;exact ik.mp (show DA K F (.str _) v from h)
  · cases q
theorem lQ{σ:L2.St}{H0 F H:Hp}{e:En}{x:Str}:bZ K σ H0 F H e (.d (.str x)) (.str x):=(show DA K F (.str x) (.str x) from ik.mpr rfl)
def je:En→Rv→Rv→Option Rv:=fun _ x y=>(b6 x).bind fun i=>(b6 y).bind fun j=>if i.length+j.length≤1000000 then some (.d (.str (i++j))) else none
def C5:R2:=fun x y H Q=>∃i j,x=.str i∧y=.str j∧i.length+j.length≤Nl∧Q (.str (i++j)) H
theorem By:gf X (NM .Add) C5:=by
  intro pins s σ H x y v u Q I rx ry h
  obtain⟨i,j,rfl,rfl,hl,q⟩:=h
  obtain⟨t,rfl⟩:=rx;obtain⟨t',rfl⟩:=ry
  exact PyProof.Rows.add_str (fun t' tk=>⟨.str (i++j),H,I.tok _,⟨_,rfl⟩,q⟩) hl
theorem Dm:f_ K C5 je:=by
  intro σ H0 F H e x y z v u Q R A B hg q
  unfold je at hg
  obtain⟨i,h1,hg⟩:=MJ hg
  obtain⟨j,h2,hg⟩:=MJ hg
  split at hg
  case isFalse=>cases hg
  case isTrue hl=>
  cases hg
  exact⟨i,j,cQ A h1,cQ B h2,by rw [NU];lia,q F H _ (cS.refl _ _ _ _) R lQ⟩
theorem rH(ha:PE X a (fE K fa))(hb:PE X b (fE K fb)):PE X (.BinOp a .Add b pos) (fE K (ax je fa fb)):=oA By Dm ha hb
def iC:En→Rv→Option Rv:=fun _ x=>match x with
  | .d (.int i)=>if i.natAbs.log2 < 1900 then some (.d (.str (toString i:String))) else none
  | .d (.str x)=>some (.d (.str x))
  | _=>none
def zR:V→Hp→VK→Prop:=fun v H Q=>(∃i:Int,v=.int i∧i.natAbs.log2 < 1900∧Q (.str (toString i:String)) H)∨∃x,v=.str x∧Q (.str x) H
theorem wR:cM X (.type "str") (fun xs H Q=>∃v,xs=[v]∧zR v H Q):=by
  intro pins s σ H xs us Q I r h
  obtain⟨v,rfl,h⟩:=h
  obtain⟨u,rfl,ru⟩:=iI r
  rcases h with ⟨i,rfl,hi,q⟩ | ⟨x,rfl,q⟩
  · obtain⟨t,rfl⟩:=ru
    exact PySem.P.str_of_int (by lia) ⟨.str _,H,I.tok _,⟨_,rfl⟩,q⟩
  · obtain⟨t,rfl⟩:=ru
    exact PySem.P.str_of_str ⟨.str _,H,I,⟨_,rfl⟩,q⟩
theorem Fi:FJ K zR iC:=by
  intro σ H0 F H e x z v Q R A hg q
  unfold iC at hg
  split at hg
  · split at hg
    case isFalse=>cases hg
    case isTrue hi=>
    cases hg
    exact .inl ⟨_,bO.mp (show DA K F (.int _) v from A),hi,q F H _ (cS.refl _ _ _ _) R lQ⟩
  · cases hg
    exact .inr ⟨_,ik.mp (show DA K F (.str _) v from A),q F H _ (cS.refl _ _ _ _) R lQ⟩
  · cases hg
theorem Fh:cJ K (fun xs H Q=>∃v,xs=[v]∧zR v H Q) (g1 iC):=ed fun σ H0 F H e x z v Q R A hg q=>⟨v,rfl,Fi σ H0 F H e x z v Q R A hg q⟩
theorem b_str:jU X K "str" (g1 iC):=⟨.inr ⟨_,_,wR,Fh,QV⟩⟩
def Ac:List MT→Option (List Str)
  | []=>some []
  | .str x::r=>(Ac r).map (x::·)
  | _::_=>none
theorem tY:∀{ds:List MT} {ys:List Str},Ac ds=some ys→ds=ys.map .str
  | [],_,h=>by cases h;rfl
  | .str x::r,ys,h=>by
    obtain⟨zs,h1,rfl⟩:=ML h
    rw [tY h1];rfl
  | .none::_,_,h=>by cases h
  | .bool _::_,_,h=>by cases h
  | .int _::_,_,h=>by cases h
  | .tuple _::_,_,h=>by cases h
  | .list _::_,_,h=>by cases h
  | .dict _::_,_,h=>by cases h
theorem sA{F:Hp}:∀{ys:List Str} {xs:List V},aN K F (ys.map .str) xs→xs=ys.map V.str
  | [],_,h=>by simpa [aN] using h
  | y::ys,_,h=>by
    simp only [ND,aN,DA] at h
    obtain⟨x,r,e,rfl,q⟩:=h
    rw [e,sA q];rfl
def sN:En→Rv→Rv→Option Rv:=fun e x y=>(b6 x).bind fun sep=>(eH e y).bind fun p=>(Ac p.2).bind fun ys=>if sep.length≤16∧(ys.map (·.length)).sum+ys.length≤1048576 then some (.d (.str (Txt.join sep ys))) else none
def C6(K:MS):V→List V→Hp→VK→Prop:=fun x vs H Q=>∃sep l ys,x=.str sep∧vs=[.ref l]∧(gF K H l (ys.map V.str)∨dN K H l (ys.map V.str))∧sep.length≤16∧(ys.map (·.length)).sum+ys.length≤1048576∧Q (.str (Txt.join sep ys)) H
theorem ke:∀{ys:List Str} {us:List Kg},aP (ys.map V.str) us→StrsAre us ys
  | [],_,h=>by cases h;exact .nil
  | y::ys,_,h=>by
    cases h with
    | cons p q=>obtain⟨t,rfl⟩:=p;exact .cons _ _ (ke q)
theorem Bk:Di X "str.join" (C6 X.K):=by
  intro pins s σ H x vs v us Q I rx rv h
  obtain⟨sep,l,ys,rfl,rfl,hs,h1,h2,q⟩:=h
  obtain⟨t,rfl⟩:=rx
  obtain⟨u,rfl,ru⟩:=iI rv
  cases ru
  have q':∀t' k,EP X pins σ Q (.str (Txt.join sep ys) t') {s with toks:=k}:=fun t' k=>⟨.str _,H,I.tok _,⟨_,rfl⟩,q⟩
  rcases hs with hs | hs
  · obtain⟨its,r,pl,hz⟩:=I.list hs
    exact join_listW pl.isList (ke r) h1 h2 q'
  · obtain⟨its,r,pl,hz⟩:=I.tuple hs
    exact join_tupleW pl (ke r) h1 h2 q'
theorem DG:f_ K (fun v u H Q=>C6 K v [u] H Q) sN:=by
  intro σ H0 F H e x y z v u Q R A B hg q
  unfold sN at hg
  obtain⟨sep,h1,hg⟩:=MJ hg
  obtain⟨⟨k,ds⟩,h2,hg⟩:=MJ hg
  obtain⟨ys,h3,hg⟩:=MJ hg
  split at hg
  case isFalse=>cases hg
  case isTrue hl=>
  cases hg
  obtain⟨l,ws,rfl,d1,s1⟩:=cI R B h2
  have e1:=tY h3
  subst e1
  have e2:=sA d1
  subst e2
  refine⟨sep,l,ys,cQ A h1,rfl,?_,hl.1,hl.2,q F H _ (cS.refl _ _ _ _) R lQ⟩
  cases k with
  | true=>exact .inl s1
  | false=>exact .inr s1
theorem zD{x:Str}{j:Nat}{p0:Pos}(hK:X.K=K)(ha:PE X a (fE K fa))(hs:Nf [a] X.env=(false,Nh a X.env)::Nf [] X.env)
    (hbase:Oh (.Constant (.str x) j p0) "join" X.env (Nh (.Constant (.str x) j p0) X.env)=Nh (.Constant (.str x) j p0) X.env)
    (hfew:((Nr pos (Nf [a] X.env)).all (fun x=> !x.1)&&(OF pos (OG [] X.env)).all (fun x=>x.1.isSome)&&decide (([a]:List MU).length+([]:List NV).length+(if ([]:List NV).isEmpty then 0 else 1) < 30))=true)
    (hline:(apos.endLine==pos.line)=true)(hplain:(Nr pos (Nf [] X.env)).any (·.1)=false):
    PE X (.Call (.Attribute (.Constant (.str x) j p0) "join" apos) [a] [] pos) (fE K (ax sN (vC (.str x)) fa)):=
  (zc QW PySem.F.slot_str_join PySem.F.type_str_join Bk (@uU X x j p0) (kR ha fP hs) hbase hfew hline hs hplain).mono fun σ H Q h=>by
    subst hK
    have h1:=o_ DG h
    obtain⟨F,e,r,e',R,hf,q⟩:=h1
    cases hf
    exact⟨rfl,q F H _ (cS.refl _ _ _ _) R lQ⟩
theorem n9(x y:Str):(x++y).length=x.length+y.length:=strLen_append x y
end
section
variable{X:Cx}{K:MS}{a b:MU}{fa fb:FE}{fs:FA}{pos p p2 p3:Pos}
end
def bq(W:aU)(as:List Int):Int:=bp W (W.rng.filter fun k=> !as.contains k)
def wI(l:Nat):Int:=1000*(2 ^ (16 - l) - 1)
theorem Hz{l:Nat}:0≤wI l∧wI l≤65536000:=by
  unfold wI
  have h1:(2:Nat) ^ (16 - l)≤2 ^ 16:=Qp (by decide) (by lia)
  have h2:1≤(2:Nat) ^ (16 - l):=Nat.one_le_two_pow
  have e:((2:Int) ^ (16 - l))=((2 ^ (16 - l):Nat):Int):=by simp
  rw [e]
  lia
structure JD (W:aU) (k:Int) (as:List Int) (y n:Fr):Prop where
  y:FF (bq W (aU.askd as k)) (wI (as.length+1)) y
  n:FF (bq W (aU.askd as k)) (wI (as.length+1)) n
  len:as.length≤15
  inw:iT W k
  new:k∉as
def lk(ws:List Fr)(l:Int):Fr:=if l= -1 then(0,1) else ws.getD l.toNat (0,1)
structure Iu (W:aU) (S:Nat→Std) (n:Nat) (ws:List Fr):Prop where
  len:ws.length=n
  at':∀(j:Nat) (f:Fr),ws[j]?=some f→FF (bq W (S j).1) (wI (S j).1.length) f
theorem FB{M i:Int}(h:0≤i):FF M i (0,1):=⟨by decide,by decide,by show(0:Int)≤i*1;lia,Int.one_dvd _⟩
theorem yJ{W:aU}{S:Nat→Std}{n:Nat}{ws:List Fr}{i:Nat}{k:Int}{b:Bool}{l:Int}(h:Iu W S n ws)(hl:Dh W n S i k b l):FF (bq W (aU.askd (S i).1 k)) (wI ((S i).1.length+1)) (lk ws l):=by
  unfold lk
  rcases hl with hl | ⟨h1,h2,h3⟩
  · rw [if_pos hl];exact FB Hz.1
  · rw [if_neg (by lia)]
    have hil:l.toNat < ws.length:=by rw [h.len];lia
    have e:ws[l.toNat]?=some (ws.getD l.toNat (0,1)):=by simp [hil]
    have:=h.at' _ _ e
    rw [h3] at this
    have e1:(nxt W (S i) k b).1.length=(S i).1.length+1:=m6
    rw [e1] at this
    exact this
noncomputable def nS(n:Int):Str:=MW (toString n)
theorem Bn:∀n:Fin 1001,(MW (toString ((n.val:Nat):Int))).length≤4:=by decide+kernel
theorem Eg{n:Int}(h0:0≤n)(h1:n≤1000):(nS n).length≤4:=by
  have:=Bn ⟨n.toNat,by lia⟩
  rw [show(((⟨n.toNat,by lia⟩:Fin 1001).val:Nat):Int)=n by simp;lia] at this
  exact this
theorem vO(n:Int):NK (nS n)=true:=aO _
theorem Ea{n:Int}(h0:0≤n)(h1:n≤1000):n.natAbs.log2 < 1900:=by
  have:=Nat.log2_le_self n.natAbs
  lia
theorem yt{e:En}{i:Int}(h0:0≤i)(h1:i≤1000):g1 iC e [.d (.int i)]=some (.d (.str (nS i))):=by
  simp only [g1,iC]
  rw [if_pos (Ea h0 h1)];rfl
theorem yu{e:En}{x:Str}:g1 iC e [.d (.str x)]=some (.d (.str x)):=rfl
theorem vH{e:En}{a b:Str}(h:a.length+b.length≤1000000):je e (.d (.str a)) (.d (.str b))=some (.d (.str (a++b))):=by
  simp only [je,b6,Nv];rw [if_pos h]
theorem IS(a b:Str):(a++b).length=a.length+b.length:=strLen_append a b
section
variable{X:Cx}{K:MS}{a:MU}{fa:FE}{pos p pos2 p2:Pos}
end
section
variable{X:Cx}{K:MS}{a:MU}{fa:FE}
end
abbrev Rn:=List (Int × Bool)
def AV(R:Rn):List Int:=R.map (·.1)
def CF(W:aU)(R:Rn):List Int:=(R.filter (·.2)).flatMap fun r=>[(W.tie r.1).one,(W.tie r.1).other]
structure JQ (W:aU) (R:Rn) (asked taken:List Int):Prop where
  pa:asked.Perm (AV R)
  pt:taken.Perm (CF W R)
  inw:∀k∈AV R,iT W k
  nd:(AV R).Nodup
  nk:(CF W R).Nodup
  bd:∀t:Int,0≤t→t < W.things→W.many (AV R) t≤W.pat.getD t.toNat 0
  ak:(R.length:Int)≤W.asks
  sa:asked.Pairwise (· ≤·)
  st:taken.Pairwise (· ≤·)
section
variable{prog:MZ}{w:MV}{A:Nb}{R:Result→MP→Prop}
end
def Fm(l:xM)(wi:TI)(g:TG)(tc:TT)(te:TE)(σ:L2.St)(H:Hp)(N:L2.St→Hp→Prop):Prop:=
  wi σ H fun J H1=>∃W:Nat→Nat→L2.St→Hp→Prop,(∃m,W 0 m σ H1)∧∀i m σ' H',W i m σ' H'→
    (J.stop i H'∧N σ' H')∨(J.go i H'∧∃N2:L2.St→Hp→Prop,(∀σ2 H2,N2 σ2 H2→∃m',m' < m∧W (i+1) m' σ2 H2)∧
      ∀x H2,J.yld i H' x H2→g x σ' H2 fun σ2 H3=>tc σ2 H3 fun b H4=>if b=true then te σ2 H4 fun v H5=>∃ys,H5 l=some (.lst ys)∧ys.length < Nl∧N2 σ2 (bv H5 l (.lst (ys++[v]))) else N2 σ2 H4)
structure IU (cp:List (Nat × Str)) (nT:Nat) (wi:TI) (g:TG) (tc:TT) (wi2:TI) (g2:TG) (tc2:TT) (te:TE) (σ:L2.St) (H:Hp) (Q:VK):Prop where
  go:wi σ H fun J H1=>∀l,H1 l=none→
  ∃W:Nat→Nat→L2.St→Hp→Prop,(∃m,W 0 m (iQ cp nT σ) (bv H1 l (.lst [])))∧∀i m σ' H',W i m σ' H'→
    (J.stop i H'∧Q (.ref l) H')∨(J.go i H'∧∃N:L2.St→Hp→Prop,(∀σ2 H2,N σ2 H2→∃m',m' < m∧W (i+1) m' σ2 H2)∧
      ∀x H2,J.yld i H' x H2→g x σ' H2 fun σ2 H3=>tc σ2 H3 fun b H4=>if b=true then Fm l wi2 g2 tc2 te σ2 H4 N else N σ2 H4)
section
variable{K:MS}{F H:Hp}{σ:L2.St}{e:En}{cp:List (Nat × Str)}{nT:Nat}
end
section
variable{X:Cx}{K:MS}{pos:Pos}
end
section
variable{X:Cx}{K:MS}{pos:Pos}
variable{o:MU}{fo:FE}{apos cpos:Pos}
end
section
variable{X:Cx}{K:MS}
def J2:List Int→Int
  | []=>0
  | x::r=>r.foldl max x
end
structure JN (f:Fr):Prop where
  pos:0 < f.2
  cop:Np f.1 f.2=1
abbrev Pg:=List Int × Int
def J3(t:lw)(p:Pg):Bool:= !p.1.contains t.one&& !p.1.contains t.other
def Iy(t:lw)(p:Pg):Pg:=(p.1++[t.one,t.other],p.2+t.worth)
def J7(ps:List Pg)(t:lw):List Pg:=ps++(ps.filter (J3 t)).map (Iy t)
def J4(ts:List lw):List Pg:=ts.foldl J7 [([],0)]
structure Jk (k:Nat) (ps:List Pg):Prop where
  ne:ps≠[]
  len:ps.length≤2 ^ k
  pt:∀p∈ps,p.1.length≤2*k∧0≤p.2∧p.2≤1000*(k:Int)
def Jp(ts:List lw):Int:=J2 ((J4 ts).map (·.2))
section
variable{prog:MZ}{w:MV}{A:Nb}{E:Kg→MP→Prop}{s:MP}
end
section
variable{X:Cx}{a:MU}{ta:TA}{p p2 pos pos2:Pos}
variable{K:MS}{fs:FA}{p3:Pos}
end
def Gk(lo hi:Int):MT→Bool
  | .int i=>decide (lo≤i)&&decide (i≤hi)
  | _=>false
def uniq(many:Int):List Int→List MT→Bool
  | _,[]=>true
  | pre,.int i::r=>Gk 0 (many - 1) (.int i)&&(!pre.contains i&&uniq many (pre++[i]) r)
  | _,_::_=>false
mutual
def wt:MT→Nat
  | .list xs=>An xs+1
  | .tuple xs=>An xs+1
  | .dict _=>1
  | .none=>1
  | .bool _=>1
  | .int _=>1
  | .str _=>1
def An:List MT→Nat
  | []=>0
  | x::r=>wt x+An r
end
structure J' (d:MT) (k:Nat):Prop where
  lay:d.canLay0=true
  sh:d.showable=true
  dp:d.depth≤k
  ln:d.shown.length+2≤104*wt d
  so:NK d.shown=true
theorem yl{e:En}{xs:List MT}{neg:Bool}(hs:NI (.tuple xs)=true):bj neg e (.d (.tuple xs)) (.d (.tuple []))=some (.d (.bool (if neg then !xs.isEmpty else xs.isEmpty))):=by
  unfold bj
  simp only [gN,Nv,hs]
  have h0:NI (.tuple [])=true:=by simp [NI,NR,Ox,Oj,OQ]
  rw [h0]
  cases xs<;>simp [Oy,PyData.eqvAll]
section
variable{X:Cx}{K:MS}
variable{a b:MU}{fa fb:FE}{pos:Pos}
end
def tx(s:Str):List Nat:=s.cps.toList
section
variable{X:Cx}{K:MS}{es:List MU}{k0:Nat}{tp:Pos}{a b:MU}{fs:FA}{p pos:Pos}
end
def J0(x:Nd)(b:Bool):Int:=if b=true then x.yes else x.no
def CT(T:List Nd)(i:Nat)(b:Bool):Int:=match T[i]? with
  | some x=>J0 x b
  | none=> -1
def Iq(T:List Nd):Prop:=∀(i j:Nat) (a b:Bool),CT T i a=CT T j b→CT T i a≠ -1→i=j∧a=b
def Jd(w:Wt):Int × Int:=(w.par,w.side)
structure Kf (T:List Nd) (ws:List Wt):Prop where
  unq:Iq T
  rng:∀i a,CT T i a= -1∨(0 < CT T i a∧CT T i a < (T.length:Int))
  free:∀w∈ws,w.par= -1∨(0≤w.par∧w.par < (T.length:Int)∧CT T w.par.toNat (w.side==0)= -1)
  dst:(ws.map Jd).Nodup
  side:∀w∈ws,w.side=0∨w.side=1
structure Kl (T:List Nd) (w0 ws order:List Int):Prop where
  nd:(order++ws).Nodup
  par:∀v∈order++ws,v=0∨∃u∈order,∃b,CT T u.toNat b=v∧v≠ -1
  fst:(order=[]∧ws=w0)∨order[0]?=some 0
section
variable{prog:MZ}{w:MV}{A:Nb}{E:Kg→MP→Prop}{s:MP}
end
section
variable{X:Cx}{tg a:MU}{ta:TA}{p pos:Pos}
end
section
variable{X:Cx}{K:MS}{σ:L2.St}{tg a:MU}{fs:FA}{p pos:Pos}
end
section
variable{X:Cx}{a k:MU}{p2 pos:Pos}{fa fk:FE}{K:MS}
section
variable{prog:MZ}{w:MV}{A:Nb}{E:Kg→MP→Prop}{s:MP}
end
end
section
variable{X:Cx}{a b:MU}{ta:TA}{p p2 pos pos2:Pos}{K:MS}{fs:FA}
end
section
variable{X:Cx}{o i e:MU}{fo fi:FE}{tpos pos:Pos}{K:MS}
end
section
variable{X:Cx}{o i e:MU}{fo fi fv:FE}{tpos pos:Pos}{K:MS}
end
section
variable{X:Cx}{K:MS}
end
section
open PySem.MeetsSeq2 PySem.AutoSeq1 PySem.SeqAt
end
section
variable{X:Cx}{K:MS}{o a:MU}{to te:TE}{name:Str}{apos cpos:Pos}{T id:String}{r:V→List V→Hp→VK→Prop}{fo fa:FE}
end
section
variable{X:Cx}{K:MS}{o a:MU}{apos cpos:Pos}{fo fa:FE}
end
section
variable{K:MS}{F H:Hp}{σ:L2.St}{e:En}{cp:List (Nat × Str)}{nT:Nat}
end
section
variable{X:Cx}{K:MS}{a b:MU}{es:List MU}{fa fb:FE}{fs:FA}{pos p p2 p3:Pos}{lo hi:Option MU}
end
section
variable{X:Cx}{K:MS}
end
section
variable{X:Cx}{K:MS}{a b:MU}{fa fb:FE}{pos:Pos}
end
section
variable{X:Cx}{K:MS}
end
structure Sw (b:Bool) (n dep:Nat) (d:MT):Prop where
  dl:bif b then yW d=true else d.hasDict=false
  sh:d.showable=true
  dp:d.depth≤dep
  ln:d.shown.length+2≤n
  so:NK d.shown=true
structure S1 (n:Nat) (f:Fr):Prop where
  low:JN f
  lo:0≤f.1
  hi:f.1≤f.2
  bt:Bt n f.2
def JY(e:Int)(t:lw):Bool:=t.one==e || t.other==e
structure Km (b f g:Fr):Prop where
  pf:0 < f.2
  pg:0 < g.2
  eq:g.1*(f.2*b.1)=g.2*(f.1*b.2)
structure Kj (O:aU) (ss ws:List Std):Prop where
  len:ss.length=ws.length
  at':∀j,(ss.getD j ([],[])).1=(ws.getD j ([],[])).1∧(ss.getD j ([],[])).2.length≤2*(ss.getD j ([],[])).1.length∧∀k∈(ss.getD j ([],[])).1,iT O k
structure Kd (O:aU) (T:List Nd):Prop where
  tie:∀(i:Nat) (x:Nd),T[i]?=some x→iT O x.tie
  lk:∀(i:Nat) (x:Nd),T[i]?=some x→(-1≤x.yes∧x.yes < (T.length:Int))∧(-1≤x.no∧x.no < (T.length:Int))
section
variable{K:MS}
variable{X:Cx}{σ:L2.St}{H0 H:Hp}{e:En}
end
section
variable{X:Cx}{a b:MU}{ta:TA}{p p2 pos pos2:Pos}
end
section
variable{X:Cx}{K:MS}{fs:FA}{a b:MU}{p p2 pos pos2:Pos}
end
theorem bC:∀(names:List (Str × NW)) (n:Nat) (acc:List (Str × xM)),NB n names acc=NB n names []++acc
  | [],_,_=>rfl
  | (x,k)::r,n,acc=>by
    unfold NB
    split
    · rw [bC r (n+1) ((x,n)::acc),bC r (n+1) [(x,n)],List.append_assoc];rfl
    · exact bC r n acc
theorem ii:∀(names:List (Str × NW)) (n:Nat) (x:Str) (c:xM),(NB n names []).lookup x=some c→∃y∈names,y.1=x∧y.2=.cell
  | [],_,_,_,h=>by simp [NB] at h
  | (z,k)::r,n,x,c,h=>by
    unfold NB at h
    split at h
    · rename_i hk
      rw [bC,Qa] at h
      cases q:(NB (n+1) r []).lookup x with
      | some d=>
        obtain⟨y,hy,e⟩:=ii r _ x d q
        exact⟨y,Om _ hy,e⟩
      | none=>
        rw [q] at h
        have h':NJ x [(z,n)]=some c:=h
        rw [NP] at h'
        cases hx:x==z with
        | true=>exact⟨(z,k),OL,(by simpa using hx:x=z).symm,by simpa using hk⟩
        | false=>rw [hx] at h';simp at h'
    · obtain⟨y,hy,e⟩:=ii r n x c h
      exact⟨y,Om _ hy,e⟩
theorem gz:∀(names:List (Str × NW)) (n:Nat) (x:Str),(∃y∈names,y.1=x∧y.2=.cell)→∃c,(NB n names []).lookup x=some c
  | [],_,_,⟨_,h,_⟩=>by cases h
  | (z,k)::r,n,x,⟨y,hy,e1,e2⟩=>by
    unfold NB
    split
    · rename_i hk
      rw [bC,Qa]
      cases q:(NB (n+1) r []).lookup x with
      | some d=>exact⟨d,rfl⟩
      | none=>
        rcases MQ hy with w | w
        · subst w;subst e1;exact⟨n,by simp [NP]⟩
        · obtain⟨c,hc⟩:=gz r (n+1) x ⟨y,w,e1,e2⟩
          rw [q] at hc;cases hc
    · rename_i hk
      rcases MQ hy with w | w
      · subst w;exact absurd (by simpa using e2) hk
      · exact gz r n x ⟨y,w,e1,e2⟩
theorem pS{env:Env}:∀(names:List (Str × NW)) (cs:List (Str × xM)) (x:Str),(¬∃y∈names,y.1=x∧y.2=.free)→cs.lookup x=none→(ij env names cs).lookup x=none
  | [],_,_,_,h=>h
  | (n,k)::r,cs,x,hn,hcs=>by
    refine pS r _ x (fun⟨y,hy,z⟩=>hn ⟨y,Om _ hy,z⟩) ?_
    by_cases hk:(k==Oi)=true
    · rw [if_pos hk,NP]
      cases hx:x==n with
      | true=>exact absurd ⟨(n,k),OL,(by simpa using hx:x=n).symm,by simpa using hk⟩ hn
      | false=>exact hcs
    · rw [if_neg hk];exact hcs
theorem oF{env:Env}:∀{names:List (Str × NW)} {x:Str},(names.map fun(n,k)=>if (k==Oi&&env.scope.kind==.function&&env.kindOf n==some .cell) then(n,Pq) else(n,k)).lookup x=some .cell∨
    (names.map fun(n,k)=>if (k==Oi&&env.scope.kind==.function&&env.kindOf n==some .cell) then(n,Pq) else(n,k)).lookup x=some .free→∃y∈names,y.1=x∧(y.2=.free∨y.2=.cell)
  | [],x,h=>by simp at h
  | (n,k)::r,x,h=>by
    have ih:=@oF env r x
    rw [ND] at h
    cases hx:x==n with
    | true=>
      have e1:x=n:=by simpa using hx
      subst e1
      refine⟨(x,k),OL,rfl,?_⟩
      by_cases q:(k==Oi&&env.scope.kind==.function&&env.kindOf x==some .cell)=true
      · simp only [NX,beq_iff_eq] at q;exact .inl q.1.1
      · simp only [q,QN,if_false,NP,beq_self_eq_true,Pf] at h
        exact h.symm
    | false=>
      have e2:∀(l:List (Str × NW)),((if (k==Oi&&env.scope.kind==.function&&env.kindOf n==some .cell)=true then(n,Pq) else(n,k))::l).lookup x=l.lookup x:=fun l=>by
        split<;>simp [NP,hx]
      simp only [e2] at h
      obtain⟨y,hy,z⟩:=ih h
      exact⟨y,Om _ hy,z⟩
theorem Bo{M:Model}{A:Nb}{E:Kg→MP→Prop}{s:MP}{scope:Nz}{globals:xM}{closure:List (Str × xM)}{qual:Str}{func:Option xM}{code:Kg}{env:Env}{builtins:xM}{Q:Env→MP→Prop}
    (hQ:∀h',h'.Ns s.heap.objs.size (fun _=>none)→(∀b o,s.heap.get? b=some o→h'.get? b=some o)→
      (∀n c,(NB (s.heap.objs.size+1) scope.names []).lookup n=some c→h'.IsCell c none∧s.heap.objs.size+1≤c)→((NB (s.heap.objs.size+1) scope.names []).Pairwise fun x y=>x.2≠y.2)→
      Q (newEnv scope s.heap.objs.size globals (NB (s.heap.objs.size+1) scope.names closure) qual func code (some env) builtins) {s with heap:=h'}):
    Nc M A (newFunctionEnv scope globals closure [] qual func code (some env) builtins) Q E s:=by
  simp only [newFunctionEnv,Option.isSome_some,if_true]
  refine Ni (wpAny_alloc ?_)
  refine Ni (wpAny_layCells _ (fun name kind cells=>by cases hkc:kind==Pq<;>simp [hkc]) _ _ _ _ ?_)
  have ok:=cellsFrom_ok scope.names (s.heap.push {cls:=.type "dict",data:=.dict #[]}) (s.heap.objs.size+1) [] ⟨fun _ _ hm=>(nomatch hm),List.Pairwise.nil⟩ (by rw [PQ];exact Nn _)
  rw [PQ] at ok
  rw [show({s with heap:=s.heap.push {cls:=.type "dict",data:=.dict #[]}}:MP).heap.objs.size=s.heap.objs.size+1 from PQ ..]
  refine Ni ?_
  rw [List.forIn_nil]
  refine Nm (Nm ?_)
  exact hQ _ ((Heap.Ns.new s.heap (.type "dict")).keeps (pushCells_keeps _ _)) (fun b o e=>pushCells_keeps _ _ b o (NH _ e)) (fun n c e=>ok.empty n c (mem_of_lookup e)) ok.apart
def be(X:Cx)(scope:Nz)(cp:List (Nat × Str))(tgN:List Str)(C:xM)(s0:MP)(H0:Hp)(fp:List xM):Cx where
  prog:=X.prog
  w:=X.w
  K:=X.K
  mg:=X.mg
  base:=X.base
  A:=X.A
  N:=cp.map (·.2)++tgN
  s₀:=s0
  H₀:=H0
  env:=compEnvC scope (NB (C+1) scope.names (ij X.env scope.names [])) C X.env
  outer:=X.stack
  stack:=X.stack
  ex:=fp
  fn:=fun x=>scope.names.lookup x==some .local || scope.names.lookup x==some .cell
  calm:=X.calm
  pn:=[]
  xe:=fun _ _=>False
theorem wU{X:Cx}{scope:Nz}{sc0:Nz}{N0:List Str}{cp:List (Nat × Str)}{tgN:List Str}{pins:List (xM × Obj)}{σ:L2.St}{H3:Hp}{s₃:MP}{C:xM}{h₁:MY}{fp:List xM}(hsc:X.env.scope=sc0)(hN0:X.N=N0)
    (hk:scope.kind=.function)(hown:∀y∈scope.names,y.2=.cell→scope.names.lookup y.1=some .cell)
    (hfr:∀y∈scope.names,y.2=.free→scope.names.lookup y.1=some .free∧sc0.names.lookup y.1=some .cell)
    (hcp:∀p∈cp,N0[p.1]?=some p.2)(hcq:∀p∈cp,sc0.names.lookup p.2=some .cell∧scope.names.lookup p.2=some .free)
    (I3:aC X pins σ H3 s₃)(f3:∀b∈fp,mZ X pins H3 b)(hob:∀b∈fp,∃o,s₃.heap.get? b=some o)(hC:s₃.heap.objs.size=C)(hns₁:h₁.Ns C (fun _=>none))(old:∀b o,s₃.heap.get? b=some o→h₁.get? b=some o)
    (hownC:∀n c,(NB (C+1) scope.names []).lookup n=some c→h₁.IsCell c none∧C+1≤c)(apC:(NB (C+1) scope.names []).Pairwise fun x y=>x.2≠y.2):
    (be X scope cp tgN C s₃ H3 fp).Ok∧aC (be X scope cp tgN C s₃ H3 fp) [] (iQ cp tgN.length σ) H3 {s₃ with heap:=h₁}:=by
  have hkind:∀x,X.env.kindOf x=sc0.names.lookup x:=fun x=>by unfold Env.kindOf;rw [hsc]
  have hfree:∀y∈scope.names,y.2=.free→∃c,X.env.cells.lookup y.1=some c:=fun y hy e=>I3.ok.has y.1 (.inl (by rw [hkind];exact(hfr y hy e).2))
  have nC:∀b o,s₃.heap.get? b=some o→b≠C:=fun b o e=>by rw [←hC];exact Oc (Nt e)
  have hHC:H3 C=none:=I3.hok.fresh (by rw [hC];exact Nn _)
  have clS:∀x c,(ij X.env scope.names []).lookup x=some c→X.env.cells.lookup x=some c:=fun x c e=>m_ _ _ x c hfree (fun _ _ z=>by simp at z) e
  have clH:∀x,(∃y∈scope.names,y.1=x∧y.2=.free)→∃c,(ij X.env scope.names []).lookup x=some c:=fun x e=>sv _ _ x (.inl e)
  have clN:∀x,(¬∃y∈scope.names,y.1=x∧y.2=.free)→(ij X.env scope.names []).lookup x=none:=fun x q=>pS _ _ x q rfl
  have AA:∀x c,(NB (C+1) scope.names (ij X.env scope.names [])).lookup x=some c→(NB (C+1) scope.names []).lookup x=some c∨(ij X.env scope.names []).lookup x=some c:=fun x c e=>by
    rw [bC,Qa] at e
    cases q:(NB (C+1) scope.names []).lookup x with
    | some d=>rw [q] at e;exact .inl e
    | none=>rw [q] at e;exact .inr e
  have ltC:∀x c,(ij X.env scope.names []).lookup x=some c→c < C:=fun x c e=>by
    obtain⟨v,o,ho,_⟩:=I3.cell x c (clS x c e)
    rw [←hC];exact Nt ho
  have clF:∀x,(∃y∈scope.names,y.1=x∧y.2=.free)→(NB (C+1) scope.names (ij X.env scope.names [])).lookup x=(ij X.env scope.names []).lookup x:=fun x ⟨y,hy,e1,e2⟩=>by
    rw [bC,Qa]
    cases q:(NB (C+1) scope.names []).lookup x with
    | none=>rfl
    | some d=>
      exfalso
      obtain⟨z,hz,z1,z2⟩:=ii scope.names _ x d q
      have a1:=hown z hz z2
      have a2:=(hfr y hy e2).1
      rw [z1] at a1;rw [e1,a1] at a2;cases a2
  have hasC:∀x,(∃y∈scope.names,y.1=x∧(y.2=.free∨y.2=.cell))→∃c,(NB (C+1) scope.names (ij X.env scope.names [])).lookup x=some c:=fun x ⟨y,hy,e1,e2⟩=>by
    rcases e2 with e2 | e2
    · rw [clF x ⟨y,hy,e1,e2⟩];exact clH x ⟨y,hy,e1,e2⟩
    · rw [bC,Qa]
      obtain⟨c,hc⟩:=gz scope.names (C+1) x ⟨y,hy,e1,e2⟩
      exact⟨c,by rw [hc];rfl⟩
  have ok':(be X scope cp tgN C s₃ H3 fp).Ok:=by
    refine⟨I3.ok.mod,hk,I3.ok.glob,I3.ok.blt,by rw [←hC];exact Nn _,fun x y c e1 e2=>?_,fun x e=>hasC x (oF e),fun x c e1 e2=>?_,I3.ok.hd,I3.ok.frames,.inl rfl,fun b hb=>?_,fun b o e=>I3.bs b o e,?_,fun b o e hb=>?_,fun b hb z=>?_,I3.stack,fun b hb=>I3.stkFree b hb⟩
    · rcases AA x c e1 with e1 | e1<;>rcases AA y c e2 with e2 | e2
      · exact name_of_addr apC (mem_of_lookup e1) (mem_of_lookup e2)
      · exact(OS _ (Nat.lt_trans (ltC y c e2) (hownC x c e1).2)).elim
      · exact(OS _ (Nat.lt_trans (ltC x c e1) (hownC y c e2).2)).elim
      · exact I3.ok.inj x y c (clS _ _ e1) (clS _ _ e2)
    · rcases AA x c e2 with e2 | e2
      · show s₃.heap.objs.size≤c
        rw [hC];exact Nat.le_of_succ_le (hownC x c e2).2
      · exfalso
        have e1':scope.names.lookup x=some .local∨scope.names.lookup x=some .cell:=by simpa [be] using e1
        by_cases q:∃y∈scope.names,y.1=x∧y.2=.free
        · obtain⟨y,hy,y1,y2⟩:=q
          have z:=(hfr y hy y2).1
          rw [y1] at z
          rcases e1' with w | w<;>(rw [z] at w;cases w)
        · rw [clN x q] at e2;cases e2
    · obtain⟨f0,f1,f4,f5,f6,f7⟩:=f3 b hb
      obtain⟨o,ho⟩:=hob b hb
      exact⟨nC b o ho,fun x c e=>(AA x c e).elim (fun e z=>absurd (hownC x c e).2 (by rw [z,←hC];exact Nat.not_le.mpr (Nat.lt_succ_of_lt (Nt ho)))) (fun e=>f6 x c (clS x c e))⟩
    · exact NG I3.ok.bsz I3.sz
    · obtain⟨f0,f1,f4,f5,f6,f7⟩:=f3 b hb
      rcases f5 with z | z
      · exact I3.ok.noex b o e z
      · have:=(I3.ok.bs b o e).1
        exact absurd (NS (Nt this) z) (OS _)
    · obtain⟨f0,f1,f4,f5,f6,f7⟩:=f3 b hb
      rcases MQ (I3.stkSub b z) with z | z
      · exact f1 z
      · exact f4 z
  have I4:aC (be X scope cp tgN C s₃ H3 fp) [] (iQ cp tgN.length σ) H3 {s₃ with heap:=h₁}:=by
    refine⟨ok',rfl,I3.bare,Un.kept old,⟨_,hns₁,fun i x v e1 e2 e3=>?_⟩,fun x c e=>?_,hHC,fun x c e=>(AA x c e).elim (fun e=>I3.hok.fresh (by rw [hC];exact Nat.le_of_succ_le (hownC x c e).2)) (fun e=>I3.freeC x c (clS x c e)),fun p hp=>by simp [be] at hp,I3.hok.kept old,by simp [iQ,be]⟩
    · have hlt:i < cp.length:=by
        by_cases q:i < cp.length
        · exact q
        · exfalso
          unfold iQ at e2
          rw [List.getElem?_append_right (by simp;lia)] at e2
          rw [QI] at e2
          split at e2<;>cases e2
      have e1':(cp.map (·.2))[i]?=some x:=by
        have e1'':(cp.map (·.2)++tgN)[i]?=some x:=e1
        rwa [OH (by simp;exact hlt)] at e1''
      have e2':(cp.map (fun p=>(σ[p.1]?).join))[i]?=some (some v):=by
        unfold iQ at e2
        rwa [OH (by simp;exact hlt)] at e2
      rw [NF,Ot hlt] at e1' e2'
      have ex:(cp[i]).2=x:=by simpa using e1'
      have ev:(σ[(cp[i]).1]?).join=some v:=by simpa using e2'
      have ev':σ[(cp[i]).1]?=some (some v):=by
        cases q:σ[(cp[i]).1]? with
        | none=>rw [q] at ev;cases ev
        | some z=>rw [q] at ev;simp only [Option.join_some] at ev;rw [ev]
      have hN:=hcp cp[i] (Qv hlt)
      rw [←hN0] at hN
      obtain⟨hcl,hcf⟩:=hcq cp[i] (Qv hlt)
      rw [ex] at hN hcl hcf
      obtain⟨m,hn,hl⟩:=I3.loc
      obtain⟨u,r,l⟩:=hl _ x v hN ev' (.inr (.inl (by rw [hsc];exact hcl)))
      refine⟨u,r,.inr ?_⟩
      rcases l with ⟨k1,_⟩ | ⟨k1,c,hcc,o,ho,hd⟩
      · rw [hkind,hcl] at k1;cases k1
      · have e3':(relabel scope X.env).names.lookup x=some .local∨(relabel scope X.env).names.lookup x=some .cell∨(relabel scope X.env).names.lookup x=some .free:=e3
        have nl:(relabel scope X.env).names.lookup x=some .cell∨(relabel scope X.env).names.lookup x=some .free:=by
          rcases e3' with z | z | z
          · exact absurd z (iU hcf)
          · exact .inl z
          · exact .inr z
        have fr:∃y∈scope.names,y.1=x∧y.2=.free:=⟨(x,.free),mem_of_lookup hcf,rfl,rfl⟩
        obtain⟨c',hc'⟩:=clH x fr
        have:=clS x c' hc'
        rw [hcc] at this;cases this
        exact⟨nl,c,(clF x fr).trans hc',o,old c o ho,hd⟩
    · rcases AA x c e with e | e
      · exact⟨none,(hownC x c e).1⟩
      · obtain⟨v,o,ho,hd⟩:=I3.cell x c (clS x c e)
        exact⟨v,o,old c o ho,hd⟩
  exact⟨ok',I4⟩
theorem wV{X:Cx}{scope:Nz}{cp:List (Nat × Str)}{tgN:List Str}{pins:List (xM × Obj)}{σ σ5:L2.St}{H3 H5:Hp}{s₃ s6:MP}{C:xM}{fp:List xM}(I3:aC X pins σ H3 s₃)(f3:∀b∈fp,mZ X pins H3 b)(nC:∀b o,s₃.heap.get? b=some o→b≠C)
    (I6:aC (be X scope cp tgN C s₃ H3 fp) [] σ5 H5 s6)(h':MY)(sb:Pz C s6.heap h'):aC X pins σ H5 {s6 with heap:=h'}:=by
  have ub:=I6.base
  have kp:∀b u,b≠C→s6.heap.get? b=some u→h'.get? b=some u:=fun b u ne e=>sb.extBut b u ne e
  have nit:∀b u,H5 b=some u→b≠C:=fun b u e z=>by
    have:=I6.free
    rw [z] at e
    rw [show H5 C=none from this] at e;cases e
  refine I3.call' (s':={s6 with heap:=h'}) (ch:=fp) I6.os ⟨fun b o e n hb hx=>kp b o (nC b o e) (ub.keep b o e n hb hx),fun b o e n hb hx=>?_,ub.free,fun b o e hx=>?_,ub.tups,ub.frzs,ub.tbls⟩ (fun b u e=>?_) I6.bare (fun b hb=>?_)
  · obtain⟨sl,q⟩:=ub.slot b o e n hb hx
    exact⟨sl,kp b _ (nC b o e) q⟩
  · obtain⟨o',q⟩:=ub.there b o e hx
    exact⟨o',kp b _ (nC b o e) q⟩
  · refine(I6.hok b u e).stay (fun c v hc q=>kp c v ?_ q) (fun _ q=>q) fun _ _ q=>q
    rcases hc with z | z
    · rw [z];exact nit b u e
    · exact nit c _ z
  · obtain⟨f0,f1,f4,f5,f6,f7⟩:=f3 b hb
    exact⟨f5,f1,f6,f7⟩
theorem yf{X:Cx}{use:Option (Kg→Sem Unit)}{RR:Kg→MP→Prop}{pins:List (xM × Obj)}{s:MP}{σ:L2.St}{H:Hp}{Q:VK}{elt iter tg:MU}{ifs:List MU}{scope:Nz}{pos:Pos}{wi:TI}{g:TG}{tc:TT}{te:TE}(sc0:Nz)(N0:List Str)(cp:List (Nat × Str))(tgN:List Str)
    (hc:X.calm=true)(hsc:X.env.scope=sc0)(hN0:X.N=N0)(hi:PI X tg iter wi)
    (hg:∀C s0 H0 fp,PG (be X scope cp tgN C s0 H0 fp) tg g)
    (ht:∀C s0 H0 fp,Ao (be X scope cp tgN C s0 H0 fp) ifs tc)
    (he:∀C s0 H0 fp,PE (be X scope cp tgN C s0 H0 fp) elt te)
    (hk:scope.kind=.function)(hown:∀y∈scope.names,y.2=.cell→scope.names.lookup y.1=some .cell)(hnames:∀y∈scope.names,y.2=.local→scope.names.lookup y.1=some .local)
    (hfr:∀y∈scope.names,y.2=.free→scope.names.lookup y.1=some .free∧sc0.names.lookup y.1=some .cell)
    (hcp:∀p∈cp,N0[p.1]?=some p.2)(hcq:∀p∈cp,sc0.names.lookup p.2=some .cell∧scope.names.lookup p.2=some .free)
    (hs:∀x,PB iter X.env x=pure x)(I:aC X pins σ H s)(h:Ad cp tgN.length wi g tc te σ H Q)
    (fin:∀(C D:xM) (H5:Hp) (s6:MP),(∃m,s6.heap.Ns C m)→Q (.ref D) H5→mZ X pins H5 C→(∀h',Pz C s6.heap h'→aC X pins σ H5 {s6 with heap:=h'})→compPost (Ng X.prog X.w) X.A X.xe use RR (.ref D) C (.ok .next) s6):
    Nc (Ng X.prog X.w) X.A (comprehension (.ListComp elt [⟨tg,iter,ifs,0⟩] scope pos) scope X.env (firstIterPos [⟨tg,iter,ifs,0⟩] pos) (newList []) (firstAsync [⟨tg,iter,ifs,0⟩]) (firstIter [⟨tg,iter,ifs,0⟩] X.env) use) RR X.xe s:=by
  have hkind:∀x,X.env.kindOf x=sc0.names.lookup x:=fun x=>by unfold Env.kindOf;rw [hsc]
  have hfree:∀y∈scope.names,y.2=.free→∃c,X.env.cells.lookup y.1=some c:=fun y hy e=>I.ok.has y.1 (.inl (by rw [hkind];exact(hfr y hy e).2))
  refine wpAny_comprehension_free (use:=use) rfl hs (ux hfree) hk hnames (On (hi pins s σ H _ I h.go) (fun xv s₁ h₁=>On h₁ (fun itv s₂ h₂=>?_) fun _ _ e=>e) fun _ _ e=>e)
  obtain⟨it,fp,tn,J,H2,rfl,I2,T,st2,f2,hq⟩:=h₂
  refine Pj ?_
  have hlF:H2 s₂.heap.objs.size=none:=I2.hok.fresh (Nn _)
  have I3:aC X pins σ (bv H2 s₂.heap.objs.size (.lst [])) {s₂ with heap:=s₂.heap.push {cls:=.type "list",data:=.seq ([]:List Kg).toArray}}:=I2.lnew (t':=s₂.toks) .nil (ON _)
  obtain⟨W,⟨m0,w0⟩,turn⟩:=hq _ hlF
  have f3:∀b∈fp,mZ X pins (bv H2 s₂.heap.objs.size (.lst [])) b:=fun b hb=>by
    obtain⟨f0,fr⟩:=f2 b hb
    obtain⟨o,ho,_⟩:=T.obj _ _ st2 b hb
    exact⟨by rw [ar (Oc (Nt ho))];exact f0,fr⟩
  have st3:tn 0 (s₂.heap.push {cls:=.type "list",data:=.seq ([]:List Kg).toArray}):=T.keep _ _ _ st2 fun b _ o e=>NH _ e
  generalize hD:s₂.heap.objs.size=D at*
  generalize hs3:({s₂ with heap:=s₂.heap.push {cls:=.type "list",data:=.seq ([]:List Kg).toArray}}:MP)=s₃ at*
  have hst3:tn 0 s₃.heap:=by rw [←hs3];exact st3
  refine Bo (fun h₁ hns₁ old hownC apC=>?_)
  generalize hC:s₃.heap.objs.size=C at*
  have nC:∀b o,s₃.heap.get? b=some o→b≠C:=fun b o e=>by rw [←hC];exact Oc (Nt e)
  obtain⟨ok',I4⟩:=wU (cp:=cp) (tgN:=tgN) hsc hN0 hk hown hfr hcp hcq I3 f3 (fun b hb=>let ⟨o,e,_⟩:=T.obj _ _ hst3 b hb;⟨o,e⟩) hC hns₁ old hownC apC
  have hst4:tn 0 h₁:=T.keep _ _ _ hst3 fun b _ o e=>old b o e
  have loop:codeAny (Ng X.prog X.w) X.A (.compLoop (.ListComp elt [⟨tg,iter,ifs,0⟩] scope pos) 0 (.ref it) (.ref D) (compEnvC scope (NB (C+1) scope.names (ij X.env scope.names [])) C X.env))
      (compPost (Ng X.prog X.w) X.A X.xe use RR (.ref D) C) {s₃ with heap:=h₁}:=by
    refine qL (fun n s'=>∃i σ' H',aC (be X scope cp tgN C s₃ (bv H2 D (.lst [])) fp) [] σ' H' s'∧tn i s'.heap∧(∀b∈fp,H' b=none)∧W i n σ' H') ?_ (n0:=m0) ⟨0,_,_,I4,hst4,fun b hb=>(f3 b hb).1,w0⟩
    rintro n s5 ⟨i,σ5,H5,I5,st5,fr5,w5⟩
    have stat:∀{H':Hp},(∀b∈fp,H' b=none)→∀b∈fp,mZ (be X scope cp tgN C s₃ (bv H2 D (.lst [])) fp) [] H' b:=fun hn b hb=>
      ⟨hn b hb,(ok'.exf b hb).1,ok'.exfs b hb,.inl hb,(ok'.exf b hb).2,fun p hp=>by simp [be] at hp⟩
    rcases turn i n σ5 H5 w5 with ⟨stop,qn⟩ | ⟨go,N,hN,step⟩
    · refine cw (T.done (be X scope cp tgN C s₃ (bv H2 D (.lst [])) fp) rfl rfl rfl hc i [] s5 σ5 H5 (fun _ _=>False) I5 (stat fr5) st5 stop) fun r s6 ⟨hr,I6⟩=>?_
      subst hr
      refine⟨fun _=>?_,fun v z=>by cases z⟩
      obtain⟨m,hn,_⟩:=I6.loc
      exact fin C D H5 s6 ⟨m,hn⟩ qn (I3.fpOk (by rw [hC];exact Nn _) I6.free) (wV I3 f3 nC I6)
    · refine cw (T.item (be X scope cp tgN C s₃ (bv H2 D (.lst [])) fp) rfl rfl rfl hc i [] s5 σ5 H5 (fun _ _=>False) I5 (stat fr5) st5 go) fun r s6 ⟨u,hr,h6⟩=>?_
      subst hr
      refine⟨fun z=>(by cases z),fun v z=>?_⟩
      cases z
      refine cw h6 fun _ s7 ⟨x,H7,I7,r7,y7,st7,fr7⟩=>?_
      have I7':=I7.pinned (stat fr7) (T.obj _ _ st7)
      have again:∀{σ8:L2.St} {H8:Hp} {s8:MP},aC (be X scope cp tgN C s₃ (bv H2 D (.lst [])) fp) ([]++oz fp s7.heap) σ8 H8 s8→N σ8 H8→∃m,m < n∧∃i σ' H',aC (be X scope cp tgN C s₃ (bv H2 D (.lst [])) fp) [] σ' H' s8∧tn i s8.heap∧(∀b∈fp,H' b=none)∧W i m σ' H':=fun{σ8 H8 s8} I8 n8=>by
        obtain⟨m',hm,w8⟩:=hN σ8 H8 n8
        refine⟨m',hm,i+1,σ8,H8,I8.unpinned,T.keep _ _ _ st7 fun b hb o e=>(I8.pin (b,o) (OM _ (OM _ (iG hb e)))).1,fun b hb=>?_,w8⟩
        obtain⟨o,e,d⟩:=T.obj _ _ st7 b hb
        exact(I8.pin (b,o) (OM _ (OM _ (iG hb e)))).2.1
      refine cw (hg C s₃ (bv H2 D (.lst [])) fp _ s7 σ5 H7 x u _ I7' r7 (step x H7 y7)) fun _ s8 ⟨σ8,H8,I8,q8⟩=>?_
      refine cw (ht C s₃ (bv H2 D (.lst [])) fp _ s8 σ8 H8 _ I8 q8) fun ok s9 ⟨H9,I9,q9⟩=>?_
      cases ok with
      | false=>
        rw [if_neg Pl] at q9 ⊢
        exact again I9 q9
      | true=>
        rw [if_pos rfl] at q9 ⊢
        refine cw (he C s₃ (bv H2 D (.lst [])) fp _ s9 σ8 H9 _ I9 q9) fun v s10 ⟨xv,H10,I10,r10,ys,hl,hz,n10⟩=>?_
        refine cw (qd _ s10 σ8 H10 (.ref D) [xv] (.ref D) [v] (fun _ H=>N σ8 H) I10 rfl (.cons r10 .nil) ⟨D,ys,xv,rfl,rfl,hl,hz,n10⟩) fun _ s11 ⟨_,H11,I11,_,q11⟩=>?_
        exact again I11 q11
  exact codeAny_compStart_list loop (T.self X.A 0 _ _ _ hst4 loop)
theorem zg{X:Cx}{elt iter tg:MU}{ifs:List MU}{scope:Nz}{pos:Pos}{wi:TI}{g:TG}{tc:TT}{te:TE}(sc0:Nz)(N0:List Str)(cp:List (Nat × Str))(tgN:List Str)
    (hc:X.calm=true)(hsc:X.env.scope=sc0)(hN0:X.N=N0)(hi:PI X tg iter wi)
    (hg:∀C s0 H0 fp,PG (be X scope cp tgN C s0 H0 fp) tg g)
    (ht:∀C s0 H0 fp,Ao (be X scope cp tgN C s0 H0 fp) ifs tc)
    (he:∀C s0 H0 fp,PE (be X scope cp tgN C s0 H0 fp) elt te)
    (hk:scope.kind=.function)(hown:∀y∈scope.names,y.2=.cell→scope.names.lookup y.1=some .cell)(hnames:∀y∈scope.names,y.2=.local→scope.names.lookup y.1=some .local)
    (hfr:∀y∈scope.names,y.2=.free→scope.names.lookup y.1=some .free∧sc0.names.lookup y.1=some .cell)
    (hcp:∀p∈cp,N0[p.1]?=some p.2)(hcq:∀p∈cp,sc0.names.lookup p.2=some .cell∧scope.names.lookup p.2=some .free)
    (hs:∀x,PB iter X.env x=pure x:=by intro _;rfl):
    PE X (.ListComp elt [⟨tg,iter,ifs,0⟩] scope pos) (Ad cp tgN.length wi g tc te):=by
  intro pins s σ H Q I h
  rw [eval_ListComp]
  exact yf sc0 N0 cp tgN hc hsc hN0 hi hg ht he hk hown hnames hfr hcp hcq hs I h fun C D H5 s6 ⟨m,hn⟩ q _ key=>⟨m,hn,fun h' sb=>⟨.ref D,H5,key h' sb,rfl,q⟩⟩
def Ds(sc0 scope:Nz)(N0:List Str)(cp:List (Nat × Str))(W:List Nat):Bool:=
  (scope.names.all fun y=>(!(y.2==.local) || scope.names.lookup y.1==some .local)&&(!(y.2==.cell) || scope.names.lookup y.1==some .cell)&&(!(y.2==.free) || (scope.names.lookup y.1==some .free&&sc0.names.lookup y.1==some .cell)))&&
  (cp.all fun p=>N0[p.1]?==some p.2&&sc0.names.lookup p.2==some .cell&&scope.names.lookup p.2==some .free)&&decide ((cp.map (·.1)).Nodup)&&W.all fun j=>decide (cp.length≤j)
theorem AM{sc0 scope:Nz}{N0:List Str}{cp:List (Nat × Str)}{W:List Nat}(hch:Ds sc0 scope N0 cp W=true):
    (∀y∈scope.names,y.2=.cell→scope.names.lookup y.1=some .cell)∧(∀y∈scope.names,y.2=.local→scope.names.lookup y.1=some .local)∧
    (∀y∈scope.names,y.2=.free→scope.names.lookup y.1=some .free∧sc0.names.lookup y.1=some .cell)∧(∀p∈cp,N0[p.1]?=some p.2)∧(∀p∈cp,sc0.names.lookup p.2=some .cell∧scope.names.lookup p.2=some .free)∧
    (cp.map (·.1)).Nodup∧∀j∈W,cp.length≤j:=by
  simp only [Ds,NX,NQ,decide_eq_true_eq] at hch
  obtain⟨⟨⟨h1,h2⟩,h3⟩,h4⟩:=hch
  refine⟨fun y hy e=>?_,fun y hy e=>?_,fun y hy e=>?_,fun p hp=>?_,fun p hp=>?_,h3,h4⟩
  · have:=(h1 y hy).1.2;rw [e] at this;simpa using this
  · have:=(h1 y hy).1.1;rw [e] at this;simpa using this
  · have:=(h1 y hy).2;rw [e] at this;simpa using this
  · have:=(h2 p hp).1.1;simpa using this
  · have a:=(h2 p hp).1.2;have c:=(h2 p hp).2;exact⟨by simpa using a,by simpa using c⟩
theorem dD{X:Cx}{K:MS}{pos:Pos}{elt iter tg:MU}{ifs:List MU}{scope:Nz}{fi:FI}{g:FG}{ft:FT}{fe:FE}{W:List Nat}(cp:List (Nat × Str))(tgN:List Str)
    (hKx:X.K=K)(hc:X.calm=true)(hi:PI X tg iter (fI K fi))
    (hg:∀C s0 H0 fp,PG (be X scope cp tgN C s0 H0 fp) tg (fG K g W))
    (ht:∀C s0 H0 fp,Ao (be X scope cp tgN C s0 H0 fp) ifs (fT K ft))
    (he:∀C s0 H0 fp,PE (be X scope cp tgN C s0 H0 fp) elt (fE K fe))
    (hk:scope.kind=.function)(hch:Ds X.env.scope scope X.N cp W=true)
    (hs:∀x,PB iter X.env x=pure x):
    PE X (.ListComp elt [⟨tg,iter,ifs,0⟩] scope pos) (fE K (dI cp tgN.length fi g ft fe)):=by
  subst hKx
  obtain⟨h0,h1,h2,h3,h4,h5,h6⟩:=AM hch
  exact(zg X.env.scope X.N cp tgN hc rfl rfl hi hg ht he hk h0 h1 h2 h3 h4 hs).mono fun _ _ _ h=>Ak h5 h6 h
open PySem PySem.Spec PyProof.Rows PySem.W
structure xU (lt:Nat→Nat→Bool):Prop where
  irr:∀i,lt i i=false
  tr:∀{i j k},lt i j=false→lt j k=false→lt i k=false
  asy:∀{i j},lt i j=true→lt j i=false
abbrev gA(p:Array Nat)(i:Nat):Nat:=p.getD i 0
structure Kh (n:Nat) (p:Array Nat):Prop where
  sz:p.size=n
  pm:p.Perm (List.toArray (OX n))
section
variable{lt:Nat→Nat→Bool}{n:Nat}(O:xU lt)
include O
end
open PySem PySem.Spec PyProof.Rows PySem.W
section
variable{prog:MZ}{w:MV}{A:Nb}{E:Kg→MP→Prop}{s:MP}
end
open PySem PySem.Spec PyProof.Rows PySem.W
section
variable{X:Cx}{K:MS}
def Im(h:MY)(v:Kg)(r:List Int):Prop:=∃(a:xM) (o:Obj) (xs:List Kg) (n:Nat),v=.ref a∧h.get? a=some o∧o.cls=.type "tuple"∧o.data=.seq xs.toArray n∧OO xs r
end
open PySem PySem.Spec PyProof.Rows PySem.W PySem.SeqAt
open PySem.AutoSeq1 (wpAny_loadPart')
open MeetsSeq MeetsSeq2 MeetsSeq3 SeqRoads2
open PySem PySem.Spec PyProof.Rows PySem.W PySem.SeqAt
section
variable{A:Nb}{s:MP}
end
inductive Cm
  | i (k:Int)
  | r (f:List Int)
  | rs (R:List (List Int))
section
variable{A:Nb}{s:MP}
end
open PySem PySem.Spec PyProof.Rows PySem.W PySem.SeqAt
section
variable{X:Cx}{K:MS}
end
open PySem PySem.Spec PyProof.Rows PySem.W
section
variable{prog:MZ}{w:MV}{A:Nb}{E:Kg→MP→Prop}{s:MP}{κ:SortKind}{it:Array Keyed}{N:Nat}{lt:Nat→Nat→Bool}{st:SortSt}
end
open PySem PySem.Spec PyProof.Rows PySem.W
section
variable{lt:Nat→Nat→Bool}(O:xU lt)
abbrev Bd(lt:Nat→Nat→Bool)(x y:Nat):Prop:=lt y x=false
include O
end
structure Fn (lt:Nat→Nat→Bool) (A B r:List Nat):Prop where
  pm:r.Perm (A++B)
  so:r.Pairwise (Bd lt)
structure Mg (lt:Nat→Nat→Bool) (A B o:List Nat) (ia ib:Nat):Prop where
  pm:o.Perm (A.take ia++B.take ib)
  so:o.Pairwise (Bd lt)
  la:∀x∈o,∀y∈A.drop ia,Bd lt x y
  lb:∀x∈o,∀y∈B.drop ib,Bd lt x y
section
variable{lt:Nat→Nat→Bool}{A B o:List Nat}{ia ib:Nat}
end
section
variable{it:Array Keyed}
end
open PySem PySem.Spec PyProof.Rows PySem.W
section
variable{prog:MZ}{w:MV}{A:Nb}{E:Kg→MP→Prop}{s:MP}{κ:SortKind}{it:Array Keyed}{N:Nat}{lt:Nat→Nat→Bool}{st:SortSt}{a b:Array Nat}
structure Kk (lt:Nat→Nat→Bool) (a b:Array Nat) (o:List Nat) (ia ib:Nat):Prop where
  m:Mg lt a.toList b.toList o ia ib
  ha:ia+1 < a.size
  hb:ib < b.size
structure Ko (N:Nat) (lt:Nat→Nat→Bool) (a b:Array Nat):Prop where
  o:xU lt
  sa:a.toList.Pairwise (Bd lt)
  sb:b.toList.Pairwise (Bd lt)
  qa:∀j,j < a.size→gA a j < N
  qb:∀j,j < b.size→gA b j < N
  a0:0 < a.size
  b0:0 < b.size
  fst:lt (gA b 0) (gA a 0)=true
  lst:∀j,j < b.size→lt (gA b j) (gA a (a.size - 1))=true
end
open PySem PySem.Spec PyProof.Rows PySem.W
structure Hg (lt:Nat→Nat→Bool) (A B o:List Nat) (na nb:Nat):Prop where
  pm:o.Perm (A.drop na++B.drop nb)
  so:o.Pairwise fun x y=>Bd lt y x
  la:∀x∈o,∀y∈A.take na,Bd lt y x
  lb:∀x∈o,∀y∈B.take nb,Bd lt y x
section
variable{lt:Nat→Nat→Bool}{A B o:List Nat}{na nb:Nat}
end
section
variable{it:Array Keyed}
end
section
variable{prog:MZ}{w:MV}{A:Nb}{E:Kg→MP→Prop}{s:MP}{κ:SortKind}{it:Array Keyed}{N:Nat}{lt:Nat→Nat→Bool}{st:SortSt}{a b:Array Nat}
structure Ki (lt:Nat→Nat→Bool) (a b:Array Nat) (o:List Nat) (na nb:Nat):Prop where
  m:Hg lt a.toList b.toList o na nb
  ha:0 < na
  hb:1 < nb
  la:na≤a.size
  lb:nb≤b.size
end
open PySem PySem.Spec PyProof.Rows PySem.W
section
variable{prog:MZ}{w:MV}{A:Nb}{E:Kg→MP→Prop}{s:MP}{κ:SortKind}{it:Array Keyed}{N:Nat}{lt:Nat→Nat→Bool}{st:SortSt}
end
open PySem PySem.Spec PyProof.Rows PySem.W
structure Ch (lo:Nat) (p p':Array Nat):Prop where
  sz:p'.size=p.size
  pm:p'.Perm p
  low:∀i,i < lo→gA p' i=gA p i
section
variable{lt:Nat→Nat→Bool}(O:xU lt){p:Array Nat}{lo m:Nat}
include O
end
section
variable{prog:MZ}{w:MV}{A:Nb}{E:Kg→MP→Prop}{s:MP}{κ:SortKind}{it:Array Keyed}{N:Nat}{lt:Nat→Nat→Bool}{p:Array Nat}{pend:Array (Nat × Nat × Nat)}{g lo nrem:Nat}
end
open PySem PySem.Spec PyProof.Rows PySem.W
section
variable{prog:MZ}{w:MV}{A:Nb}{E:Kg→MP→Prop}{s:MP}{κ:SortKind}{it:Array Keyed}{N:Nat}{lt:Nat→Nat→Bool}{p:Array Nat}{pend:Array (Nat × Nat × Nat)}{g lo:Nat}
end
open PySem PySem.Spec PyProof.Rows PySem.W
section
variable{prog:MZ}{w:MV}{A:Nb}{E:Kg→MP→Prop}{s:MP}
end
section
variable{X:Cx}{K:MS}
end
open PySem PySem.Spec PyProof.Rows PySem.W
section
variable{X:Cx}{K:MS}
end
open PySem PySem.Spec PyProof.Rows PySem.W
section
variable{X:Cx}{K:MS}
end
section
variable{X:Cx}{K:MS}
variable{o a:MU}{es:List MU}{fo:FE}{fs:FA}{apos cpos:Pos}
end
section
variable{X:Cx}{K:MS}{σ σ2:L2.St}{H0 F H F2 H2 F3:Hp}{e e2:En}
end
section
variable{X:Cx}{K:MS}{a b:MU}{fa fb:FE}{pos p p1 p2 p3 pos':Pos}{x:Str}{i:Nat}
end
section
variable{X:Cx}{K:MS}
end
section
variable{prog:MZ}{w:MV}{A:Nb}{R:Result→MP→Prop}
end
def Ca(l:xM)(wi:TI)(g:TG)(tc:TT)(tk tv:TE)(σ:L2.St)(H:Hp)(N:L2.St→Hp→Prop):Prop:=
  wi σ H fun J H1=>∃W:Nat→Nat→L2.St→Hp→Prop,(∃m,W 0 m σ H1)∧∀i m σ' H',W i m σ' H'→
    (J.stop i H'∧N σ' H')∨(J.go i H'∧∃N2:L2.St→Hp→Prop,(∀σ2 H2,N2 σ2 H2→∃m',m' < m∧W (i+1) m' σ2 H2)∧
      ∀x H2,J.yld i H' x H2→g x σ' H2 fun σ2 H3=>tc σ2 H3 fun b H4=>if b=true then tk σ2 H4 fun y H5=>tv σ2 H5 fun v H6=>∃(kk:iZ) (kvs:List (iZ × V)),y=kV kk∧H6 l=some (.dK kvs)∧kvs.length < Nl∧N2 σ2 (bv H6 l (.dK (GT kvs kk v))) else N2 σ2 H4)
structure HU (cp:List (Nat × Str)) (nT:Nat) (wi:TI) (g:TG) (tc:TT) (wi2:TI) (g2:TG) (tc2:TT) (tk tv:TE) (σ:L2.St) (H:Hp) (Q:VK):Prop where
  go:wi σ H fun J H1=>∀l,H1 l=none→
  ∃W:Nat→Nat→L2.St→Hp→Prop,(∃m,W 0 m (iQ cp nT σ) (bv H1 l (.dK [])))∧∀i m σ' H',W i m σ' H'→
    (J.stop i H'∧Q (.ref l) H')∨(J.go i H'∧∃N:L2.St→Hp→Prop,(∀σ2 H2,N σ2 H2→∃m',m' < m∧W (i+1) m' σ2 H2)∧
      ∀x H2,J.yld i H' x H2→g x σ' H2 fun σ2 H3=>tc σ2 H3 fun b H4=>if b=true then Ca l wi2 g2 tc2 tk tv σ2 H4 N else N σ2 H4)
def aK(p:Int × ui):iZ × V:=(Sum.inl p.1,p.2.toV)
def aD(p:Int × ui):MT × MT:=(.int p.1,p.2.toD)
section
variable{K:MS}{F H F' H':Hp}{σ σ':L2.St}{e e':En}{nT:Nat}
inductive CD (K:MS) (W:List Nat) (σ0:L2.St) (F1 H1:Hp) (e0:En) (l:xM) (P:Hp→En→List (Int × ui)→Prop) (σ':L2.St) (H':Hp):Prop
  | mk {F':Hp} {ei:En} {acc:List (Int × ui)} (R:aY K F' H' σ' ei) (X:cY W σ0 F1 H1 e0 σ' F' H' ei) (fl:F' l=none) (hl:H' l=some (.dK (acc.map aK))) (pl:∀p∈acc,∀F,p.2.ok K F) (hc:P F' ei acc):CD K W σ0 F1 H1 e0 l P σ' H'
end
section
variable{X:Cx}{K:MS}{pos:Pos}
end
section
variable{K:MS}{F H F' H' F1 H1 F2 H2:Hp}{σ σ' σ1 σ2:L2.St}{e e' e1 e2:En}{i:Nat}{W W1 W2:List Nat}
theorem Fp.drop{j:Nat}{a:xM}(h:Fp σ (e.set i none) H j a):Fp σ e H j a:=by
  by_cases z:j=i
  · subst z
    rcases h with ⟨xs,h,_⟩ | ⟨xss,_,_,h,_⟩
    · rw [Py] at h
      split at h
      · split at h<;>cases h
      · rename_i n;exact absurd rfl n
    · rw [Py] at h
      split at h
      · split at h<;>cases h
      · rename_i n;exact absurd rfl n
  · unfold Fp at h ⊢
    rw [Nq (Ny z)] at h
    exact h
theorem ku{j:Nat}{s:Sv}(h:(e.set i none)[j]?=some (some s)):e[j]?=some (some s):=by
  by_cases z:i=j
  · subst z
    rw [Py] at h
    rw [if_pos rfl] at h
    split at h<;>cases h
  · rwa [Nq z] at h
theorem bw.drop{a:xM}(h:bw σ (e.set i none) H a):bw σ e H a:=let ⟨j,q⟩:=h;⟨j,q.drop⟩
theorem aY.drop(R:aY K F H σ e)(i:Nat):aY K F H σ (e.set i none):=⟨R.sm,by rw [Pt];exact R.len,fun j x h=>R.dat j x (ku h),fun j xs h=>R.own j xs (ku h),fun j xss h=>R.nst j xss (ku h),fun j k a h1 h2=>R.fp j k a h1.drop h2.drop⟩
structure Ik (K:MS) (i:Nat) (F H:Hp) (σ:L2.St) (e:En):Prop where
  rel:aY K F H σ (e.set i none)
  dct:∃(l:xM) (m:List (Int × ui)),e[i]?=some (some (.d (.dict (m.map aD))))∧σ[i]?=some (some (.ref l))∧F l=none∧H l=some (.dK (m.map aK))∧∀p∈m,∀F,p.2.ok K F
structure JH (i:Nat) (W:List Nat) (σ:L2.St) (F H:Hp) (e:En) (σ':L2.St) (F' H':Hp) (e':En):Prop where
  sf:ao F F'
  dom:∀a,H' a=none→H a=none
  fr:∀a vs,F a=none→H a=some (.lst vs)→¬bw σ (e.set i none) H a→F' a=none
  lst:∀a vs,H a=some (.lst vs)→∃vs',H' a=some (.lst vs')
  tmp:∀a o,H a=some o→¬bw σ (e.set i none) H a→σ[i]?≠some (some (.ref a))→H' a=some o
  own:∀a,bw σ' (e'.set i none) H' a→bw σ (e.set i none) H a∨H a=none
  wr:∀j,j∉W→σ'[j]?=σ[j]?
  dd:σ'[i]?=σ[i]?
  fd:∀a (m:DI),F a=none→H a=some m.1→¬bw σ (e.set i none) H a→σ[i]?≠some (some (.ref a))→F' a=none
end
section
variable{X:Cx}{K:MS}{i:Nat}{W W1 W2:List Nat}{st:Na}{cf:List Na}{f g:FS}{ft:FT}{pos:Pos}
inductive HY (K:MS) (i:Nat) (F1:Hp) (P:En→Prop) (G:L2.St→Hp→Hp→En→Prop) (σ:L2.St) (H:Hp):Prop
  | mk {F:Hp} {e:En} (R:Ik K i F H σ e) (sF:ao F1 F) (hf:P e) (q:G σ F H e):HY K i F1 P G σ H
theorem gk{H:Hp}{σ:L2.St}{e:En}{v:Option V}{j:Nat}{a:xM}:Fp (σ.set i v) (e.set i none) H j a↔ Fp σ (e.set i none) H j a:=by
  by_cases z:i=j
  · subst z
    have no:∀s:Sv,(e.set i none)[i]?≠some (some s):=fun s h=>by
      rw [Py,if_pos rfl] at h
      split at h<;>cases h
    constructor
    · rintro(⟨xs,h,_⟩ | ⟨xss,_,_,h,_⟩)
      · exact absurd h (no _)
      · exact absurd h (no _)
    · rintro(⟨xs,h,_⟩ | ⟨xss,_,_,h,_⟩)
      · exact absurd h (no _)
      · exact absurd h (no _)
  · have e1:(σ.set i v)[j]?=σ[j]?:=Nq z
    unfold Fp
    rw [e1]
theorem aY.poke{F H:Hp}{σ:L2.St}{e:En}(R:aY K F H σ (e.set i none))(v:Option V):aY K F H (σ.set i v) (e.set i none):=by
  have ne:∀(j:Nat) (s:Sv),(e.set i none)[j]?=some (some s)→i≠j:=fun j s h z=>by
    subst z
    rw [Py,if_pos rfl] at h
    split at h<;>cases h
  refine⟨R.sm,by rw [Pt];exact R.len,fun j x h=>?_,fun j xs h=>?_,fun j xss h=>?_,fun j k a h1 h2=>R.fp j k a (gk.mp h1) (gk.mp h2)⟩
  · rw [Nq (ne j _ h)];exact R.dat j x h
  · rw [Nq (ne j _ h)];exact R.own j xs h
  · rw [Nq (ne j _ h)];exact R.nst j xss h
end
section
variable{X:Cx}{C:xM}{x:Str}{p pos rp:Pos}{e:MU}{t:TA}
end
structure Kb (P:MZ) (w:MV) (fs:List xM) (H H':Hp) (h b0:MY):Prop where
  keep:∀b o,h.get? b=some o→H b=none→b∉fs→b0.get? b=some o
  there:∀b o,h.get? b=some o→b∉fs→∃o',b0.get? b=some o'
  free:∀b o,h.get? b=some o→H b=none→H' b=none
  tups:∀b xs,H b=some (.tup xs)→H' b=some (.tup xs)
  frzs:∀b o u,H b=some (.frz o u)→H' b=some (.frz o u)
  tbls:∀b ps,H b=some (.tbl ps)→∃more,H' b=some (.tbl (ps++more))
  hok:mF P w H' b0
section
variable{P:MZ}{w:MV}{K:MS}{mg:Str→Option Kg}{base:MY}{N:List Str}{qual:Str}{scope:Nz}{f:xM}{cd:Kg}{A:Nb}{outer:List Env}{s:MP}{H:Hp}{E:XK}{C:xM}{pins:List (xM × Obj)}{σ:L2.St}{H1:Hp}{s1:MP}
end
section
variable{X:Cx}{K:MS}{st r:Na}{cf:List Na}{c:MU}{pos:Pos}{f1:FS}{ft:FT}{W1:List Nat}{g:En→Prop}
end
open PySem PySem.Spec PyProof.Rows PySem.W
section
variable{prog:MZ}{w:MV}{A:Nb}{E:Kg→MP→Prop}{h:MY}{g:Array GenState}{d:Drawn}{t:Nat}{os:OsState}{a D:xM}{o:Obj}{K:Frag}
structure JG (K:Frag) (D:xM):Prop where
  ga:findIn K (.ref D) "__getattribute__"=some (some (.builtin "BaseException.__getattribute__"))
  gt:findIn K (.ref D) "__getattr__"=some none
  cl:findIn K (.ref D) "__class__"=some (some (.builtin "object.__class__"))
  mo:mroIn K D (.type "object")=some true
  mb:mroIn K D (.type "BaseException")=some true
  cs:(clsIn K D).isSome=true
end
def IF(C a:xM)(h:MY):Prop:=∃o,h.get? a=some o∧o.cls=.ref C
def JW(C a:xM):HO:=.ext (IF C a)
section
variable{X:Cx}{pins:List (xM × Obj)}{σ:L2.St}{H H':Hp}{s:MP}{n:Str}{j:Nat}
end
section
variable{X:Cx}{C Cb f:xM}{fd:Nj}{ps:List Str}{k n k0 i j:Nat}{g:En→Prop}{fn B kx nx:Str}{p pos ep bp kp np ap hp tp:Pos}{e:MU}{es:List MU}{t:TA}
end
section
variable{X:Cx}{C:xM}{i:Nat}{x c:Str}{p p1 p2 pos:Pos}{v:V}{u:Kg}{b:Bool}
def IY(i:Nat)(C:xM)(b:Bool):TE:=fun σ H Q=>∃a,σ[i]?=some (some (.ref a))∧H a=some (JW C a)∧Q (.bl b) H
end
abbrev t3(C:xM)(b1 b2 b3:Bool):TE:=Hl (mz (IY 0 C b1) (mz (IY 0 C b2) (mz (IY 0 C b3) Af)))
section
variable{K:MS}
end
section
variable{X:Cx}{K:MS}{C:xM}{x:Str}{p pos rp:Pos}{e:MU}{fs:FA}
end
section
variable{P:MZ}{w:MV}{K:MS}{mg:Str→Option Kg}{base:MY}{N ps:List Str}{qual fn:Str}{scope:Nz}{fa f:xM}{cd:Kg}{A:Nb}{outer:List Env}{s:MP}{H:Hp}{E:XK}{C:xM}{st:Na}{fd:Nj}{k n k0:Nat}{g:En→Prop}{p pos ep:Pos}{e:MU}{es:List MU}{fs:FA}
end
section
variable{X:Cx}{C:xM}{i:Nat}{x:Str}{p p1 p2 pos:Pos}{vs:List V}{us:List Kg}{b:Bool}{cs:List MU}{ctx:Nat}
end
section
variable{K:MS}{σ:L2.St}{H:Hp}
end
section
variable{X:Cx}
end
abbrev Il(l:List Nat):Prop:=l.Pairwise (· < ·)
section
variable{prog:MZ}{w:MV}{A:Nb}{E:Kg→MP→Prop}{s:MP}
end
section
variable{prog:MZ}{w:MV}{A:Nb}{E:Kg→MP→Prop}{s:MP}
end
def J6(t:SetTable):Nat→Nat
  | 0=>0
  | i+1=>t.place.getD i 0+1
inductive Ir (w:MV) (a:xM) (es:Array (Int × Kg)) (ep:Nat) (t:SetTable) (h:MY):List Kg→xM→Nat→Kg→Prop where
  | text (hb:w.params.followText "set-order"=true) (p:xM) (i:Nat) (hp:p=a):Ir w a es ep t h ((pickOrder (w.params.setOrder a ep) es).toList.map (·.2)) p i (rawInt 0)
  | led (hb:w.params.followText "set-order"=false) (hd:(!t.plain&&es.size > 1)=false) (hl:t.led=true) (hr:Il t.place.toList) (p:xM) (i:Nat) (hp:p=a):Ir w a es ep t h (es.toList.map (·.2)) p i (rawInt (J6 t i))
  | drawn (hb:w.params.followText "set-order"=false) (p:xM) (i:Nat) (ys:List Nat) (hy:ys.Perm (OX es.size)) (hp:IsTup h p (ys.map fun(i:Nat)=>rawInt i).toArray):Ir w a es ep t h (ys.filterMap fun i=>es[i]?.map (·.2)) p i (.ref p)
section
variable{prog:MZ}{w:MV}{A:Nb}{E:Kg→MP→Prop}{s:MP}
end
section
variable{prog:MZ}{w:MV}{A:Nb}{E:Kg→MP→Prop}{s:MP}{I a p:xM}{es:Array (Int × Kg)}{ep:Nat}{t:SetTable}{L:List Kg}{i:Nat}
end
section
variable{prog:MZ}{w:MV}{A:Nb}{E:Kg→MP→Prop}{s:MP}{a:xM}{es:Array (Int × Kg)}{ep:Nat}{t:SetTable}
end
section
variable{prog:MZ}{w:MV}{A:Nb}{E:Kg→MP→Prop}{s:MP}
end
section
variable{prog:MZ}{w:MV}{A:Nb}{E:Kg→MP→Prop}{s:MP}
end
section
variable{X:Cx}{K:MS}{a:MU}{fa:FE}{pos p pos2 p2:Pos}
end
section
variable{X:Cx}{K:MS}{a b1 b2 b3:MU}{fa:FE}{fs:FA}{pos p pos2 p2:Pos}
end
section
variable{prog:MZ}{w:MV}{A:Nb}{E:Kg→MP→Prop}{s:MP}
end
section
variable{X:Cx}{K:MS}{b1 b2 b3:MU}{fs:FA}{pos p pos2 p2:Pos}
end
section
variable{X:Cx}{K:MS}{es:List MU}{k0:Nat}{tp:Pos}{a b:MU}{fs:FA}{p pos:Pos}
end
section
variable{X:Cx}{pins:List (xM × Obj)}{σ:L2.St}{H:Hp}{s:MP}
end
section
variable{prog:MZ}{w:MV}{A:Nb}{E:Kg→MP→Prop}{s:MP}
end
section
variable{X:Cx}{K:MS}{es:List MU}{k0:Nat}{tp:Pos}{a b:MU}{fs:FA}{p pos:Pos}
end
structure HW (z TI TO i1 i2 i3 l1 l2 l3:xM):Prop where
  nO:TO≠z
  nz:i1≠z∧i2≠z∧i3≠z
  nT:TO≠i1∧TO≠i2∧TO≠i3
  ni:i1≠i2∧i1≠i3∧i2≠i3
  l:∀a,a=l1∨a=l2∨a=l3→a≠z∧a≠TO∧a≠i1∧a≠i2∧a≠i3
section
variable{prog:MZ}{w:MV}{A:Nb}{E:Kg→MP→Prop}{s:MP}{z TI TO i1 i2 i3 l1 l2 l3:xM}{k:Nat}{xs ys zs:Array Kg}{a b c:Kg}
end
section
variable{K:MS}{σ:L2.St}{F H:Hp}
end
section
variable{X:Cx}{K:MS}{es:List MU}{k0:Nat}{tp:Pos}{a b c:MU}{fs:FA}{p pos:Pos}
end
section
variable{X:Cx}{K:MS}{es:List MU}{k0:Nat}{tp:Pos}{a b:MU}{fs:FA}{p pos:Pos}
end
section
variable{X:Cx}{K:MS}{es:List MU}{k0:Nat}{tp:Pos}{a:MU}{ta:TA}{p pos:Pos}
end
section
variable{X:Cx}{K:MS}{es:List MU}{k0:Nat}{tp:Pos}{a:MU}{fs:FA}{p pos:Pos}
end
section
variable(P:MZ)(w:MV)
end
section
variable{P:MZ}{w:MV}{H H':Hp}{h h':MY}{a:xM}{o:HO}
end
section
variable{P:MZ}{w:MV}{H:Hp}{h h':MY}{x e:xM}{o':HO}
end
section
variable{fs fs' ex ex':List xM}{H H1 H2:Hp}{h h1 h2 h':MY}{a x e:xM}{o:HO}
end
section
variable{X:Cx}{pins:List (xM × Obj)}{σ:List (Option V)}{H H':Hp}{s:MP}{h':MY}
end
section
variable{X:Cx}
variable{a b:MU}{ta tb:TE}{pos:Pos}
variable{tA tB':TT}{cf:List MU}
end
section
variable{X:Cx}{pins:List (xM × Obj)}{σ:St}{H:Hp}{s:MP}{a:xM}{xs ys:List V}
end
section
variable{X:Cx}{pins:List (xM × Obj)}{σ:St}{H:Hp}{s:MP}{E:Kg→MP→Prop}
end
section
variable{X:Cx}{st:Na}{cf:List Na}{t u:TS}{e:MU}{te:TE}{pos:Pos}
end
section
variable{X:Cx}{pos:Pos}
end
section
variable{X:Cx}{pos:Pos}
end
section
variable{X:Cx}{tg:MU}
end
section
variable{X:Cx}{a b c:MU}{ta tb tc:TE}{pos:Pos}
end
section
variable{X:Cx}{a b c:MU}{ta tb tc:TE}{pos:Pos}
end
section
variable{prog:MZ}{w:MV}{A:Nb}{E:Kg→MP→Prop}{s:MP}{K:MS}{x dx C f:xM}{mA:Str→Option Kg}{name:Str}{v:Kg}
end
section
variable{P:MZ}{w:MV}{H H':Hp}{h h':MY}{a C dx:xM}{fs fs':List (Str × V)}
end
section
variable{X:Cx}{pins:List (xM × Obj)}{σ:St}{H:Hp}{s:MP}{a C dx:xM}{fs:List (Str × V)}{f:Str}{v:V}{A:Nb}{E:Kg→MP→Prop}
end
section
variable{X:Cx}{o e value:MU}{f:Str}{pos pos' tpos:Pos}{ta tv:TE}
end
section
variable{X:Cx}{pins:List (xM × Obj)}{σ:St}{H:Hp}{s:MP}{A:Nb}{E:Kg→MP→Prop}{Q:Kg→MP→Prop}{c:Kg}{b:Bool}
end
section
variable{X:Cx}{e:MU}{es:List MU}{te:TE}{t:TA}{pos:Pos}
end
section
variable{X:Cx}{pins:List (xM × Obj)}{σ:St}{H:Hp}{s s':MP}
end
section
variable{X:Cx}{CX:rX}{k:Nat}{f C:xM}{fd:Nj}{ps:List Str}{sp:Sp}{dvs:List V}{ds:List Kg}{E:XK}{x m:Str}{p pos apos:Pos}{e o:MU}{es:List MU}{ta:TE}{t:TA}
end
section
variable{X:Cx}{CX:rX}{k:Nat}{f C:xM}{fd:Nj}{ps ks:List Str}{sp:Sp}{E:XK}{x m:Str}{p pos apos kpos:Pos}{e o:MU}{es:List MU}{kws:List NV}{te ta:TE}{t tk:TA}{nm:Option Str}
variable{g:List Kg→List Kg→List Kg}{gV:List V→List V→List V}
end
section
variable{X:Cx}{x:Str}{p pos:Pos}{e:MU}{es:List MU}{t:TA}{id T:String}{r:List V→Hp→VK→Prop}
end
section
variable{κ:Type}[DecidableEq κ]
end
section
variable{P:MZ}{w:MV}{H:Hp}{h:MY}{a:xM}
end
section
variable{X:Cx}{pins:List (xM × Obj)}{σ:St}{H:Hp}{s:MP}{a:xM}{y v:V}{u r:Kg}{o:Option V}{A:Nb}{E:Kg→MP→Prop}
end
section
variable{X:Cx}{pins:List (xM × Obj)}{σ:St}{H:Hp}{s:MP}{a:xM}{kvs:List (iZ × V)}{k:iZ}{u:Kg}{A:Nb}{E:Kg→MP→Prop}
end
section
variable{X:Cx}{o i e value:MU}{pos pos' tpos:Pos}{td ty tv:TE}
end
section
variable{X:Cx}{pos:Pos}
end
structure M2 (X:Cx) (o:MU) (m:Str) (apos:Pos) (e f:MU) (cpos:Pos):Prop where
  base:Oh o m X.env (Nh o X.env)=Nh o X.env
  few:((Nr cpos (Nf [e,f] X.env)).all (fun x=> !x.1)&&(OF cpos (OG [] X.env)).all (fun x=>x.1.isSome)
    &&decide (([e,f]:List MU).length+([]:List NV).length+(if ([]:List NV).isEmpty then 0 else 1) < 30))=true
  line:(apos.endLine==cpos.line)=true
  trees:Nr cpos (Nf [e,f] X.env)=[(false,Nh e X.env),(false,Nh f X.env)]
section
variable{X:Cx}{pins:List (xM × Obj)}{σ:St}{H:Hp}{s:MP}{a:xM}{y d:V}{u r:Kg}{o:Option V}{A:Nb}{E:Kg→MP→Prop}
end
section
variable{X:Cx}{o e f:MU}{apos cpos:Pos}{td ty tx:TE}
end
section
variable{X:Cx}{pins:List (xM × Obj)}{σ:St}{H:Hp}{s:MP}{a:xM}{kvs:List (iZ × V)}{A:Nb}{E:Kg→MP→Prop}
end
section
variable{X:Cx}{pins:List (xM × Obj)}{σ:St}{H:Hp}{s:MP}{a:xM}{y:V}{u:Kg}{A:Nb}{E:Kg→MP→Prop}
end
end L2
namespace Att
open PySem PySem.W PySem.Calls PyProof.Rows
section
variable{prog:MZ}{w:MV}{A:Nb}{E:Kg→MP→Prop}{s:MP}{K:Frag}
end
end Att
namespace L2
open PySem PySem.Spec PyProof.Rows
section
variable{P:MZ}{w:MV}{K:MS}{mg:Str→Option Kg}{base:MY}
end
section
variable{X:Cx}
end
section
variable{κ:Type}[DecidableEq κ]
end
section
variable{prog:MZ}{w:MV}{A:Nb}{R:Result→MP→Prop}
end
structure HS (cp:List (Nat × Str)) (nT:Nat) (wi:TI) (g:TG) (tk tv:TE) (σ:L2.St) (H:Hp) (Q:VK):Prop where
  go:wi σ H fun J H1=>∀l,H1 l=none→
  ∃W:Nat→Nat→L2.St→Hp→Prop,(∃m,W 0 m (iQ cp nT σ) (bv H1 l (.dK [])))∧∀i m σ' H',W i m σ' H'→
    (J.stop i H'∧Q (.ref l) H')∨(J.go i H'∧∃N:L2.St→Hp→Prop,(∀σ2 H2,N σ2 H2→∃m',m' < m∧W (i+1) m' σ2 H2)∧
      ∀x H2,J.yld i H' x H2→g x σ' H2 fun σ2 H4=>tk σ2 H4 fun y H5=>tv σ2 H5 fun v H6=>∃(kk:iZ) (kvs:List (iZ × V)),y=kV kk∧H6 l=some (.dK kvs)∧kvs.length < Nl∧N σ2 (bv H6 l (.dK (GT kvs kk v))))
abbrev HH:=Int × Int × Int
def pD(p:HH):MT × MT:=(.int p.1,.tuple [.int p.2.1,.int p.2.2])
section
variable{K:MS}{F H F' H':Hp}{σ σ':L2.St}{e e':En}{cp:List (Nat × Str)}{nT:Nat}
def JV(m:List (Int × ui))(acc:List HH):Prop:=m.map aD=acc.map pD
inductive JE (K:MS) (W:List Nat) (σ0:L2.St) (F1 H1:Hp) (e0:En) (l:xM) (P:Hp→En→List HH→Prop) (σ':L2.St) (H':Hp):Prop
  | mk {F':Hp} {ei:En} {acc:List HH} {m:List (Int × ui)} (R:aY K F' H' σ' ei) (X:cY W σ0 F1 H1 e0 σ' F' H' ei) (fl:F' l=none) (hl:H' l=some (.dK (m.map aK))) (ok:∀p∈m,p.2.ok K F') (ha:JV m acc) (hc:P F' ei acc):JE K W σ0 F1 H1 e0 l P σ' H'
end
section
variable{X:Cx}{K:MS}{pos:Pos}
end
section
variable{X:Cx}{K:MS}{pos:Pos}
end
section
variable{X:Cx}{K:MS}{g:En→Prop}{x:Str}{e a:MU}{es:List MU}{p pos:Pos}{T:String}
end
section
variable{P:MZ}{w:MV}{K:MS}{mg:Str→Option Kg}{base:MY}{N ps:List Str}{qual fn:Str}{scope:Nz}{fa f:xM}{cd:Kg}{A:Nb}{outer:List Env}{s:MP}{H:Hp}{E:XK}{C:xM}{st:Na}{fd:Nj}{k n k0:Nat}{g:En→Prop}{p pos:Pos}{e:MU}{es:List MU}{fs:FA}
end
section
variable{X:Cx}{K:MS}{σ:L2.St}{F H:Hp}{e e':En}
end
def sm(f:Nat→Int):Nat→Int
  | 0=>0
  | n+1=>sm f n+f n
def sg:Nat→Int
  | 0=>1
  | n+1=> - sg n
def sk(j a:Nat):Nat:=if a < j then a else a+1
def Jo:Nat→(Nat→Nat→Int)→Int
  | 0,_=>1
  | k+1,c=>sm (fun j=>sg j*c j 0*Jo k (fun a i=>c (sk j a) (i+1))) (k+1)
def pu(c:Nat→Nat→Int)(p:Nat)(v:Nat→Int):Nat→Nat→Int:=fun a=>if a=p then v else c a
def sq(f:Nat→Rat):Nat→Rat
  | 0=>0
  | n+1=>sq f n+f n
structure Tb where
  T:Nat→Nat→Int
  d:Int
  out:Nat→Nat
  win:Nat→Nat
def J5(s:Tb)(r c:Nat):Tb where
  T:=fun i j=>if i=r then(if j=c then s.d else s.T r j) else if j=c then - s.T i c else(s.T i j*s.T r c - s.T i c*s.T r j) / s.d
  d:=s.T r c
  out:=fun j=>if j=c then s.win r else s.out j
  win:=fun k=>if k=r then s.out c else s.win k
section
variable(n m:Nat)(C:Nat→Nat→Int)
def Ii(x:Nat→Rat):Prop:=∀i,i≤m→sq (fun j=>(C j i:Rat)*x j) n+x (n+i)=(C (n+m+1) i:Rat)
structure Iv (s:Tb):Prop where
  dp:0 < s.d
  cl:∀j,j≤n→∀i,s.d*C (s.out j) i=sm (fun k=>s.T k j*C (s.win k) i) (m+1)
  dt:Jo (m+1) (fun k=>C (s.win k))=s.d
  fe:∀i,i < m→0≤s.T i n
  wm:s.win m=n+m
  on:s.out n=n+m+1
  oi:∀j,j < n→∀j',j' < n→s.out j=s.out j'→j=j'
  wi:∀k,k≤m→∀k',k'≤m→s.win k=s.win k'→k=k'
  dj:∀j,j < n→∀k,k≤m→s.out j≠s.win k
  cv:∀v,v≤n+m→(∃j,j < n∧s.out j=v)∨(∃k,k≤m∧s.win k=v)
  og:∀j,j < n→s.out j≤n+m
  wg:∀k,k≤m→s.win k≤n+m
  eq:∀x,Ii n m C x↔ ∀k,k≤m→(s.d:Rat)*x (s.win k)+sq (fun j=>(s.T k j:Rat)*x (s.out j)) n=(s.T k n:Rat)
end
section
variable{n m:Nat}{C:Nat→Nat→Int}{s:Tb}(I:Iv n m C s){r c:Nat}(hr:r < m)(hc:c < n)(hp:0 < s.T r c)
include I hr hc hp
end
section
variable(n m:Nat)
structure JF (s:Tb) (c:Nat):Prop where
  hc:c < n
  neg:s.T m c < 0
  first:∀j,j < n→s.T m j < 0→s.out c≤s.out j
structure JM (s:Tb) (c r:Nat):Prop where
  hr:r < m
  pos:0 < s.T r c
  rat:∀i,i < m→0 < s.T i c→s.T r n*s.T i c≤s.T i n*s.T r c
  first:∀i,i < m→0 < s.T i c→s.T r n*s.T i c=s.T i n*s.T r c→s.win r≤s.win i
structure JP (C:Nat→Nat→Int) (st:Nat→Tb) (cs rs:Nat→Nat) (K:Nat):Prop where
  iv:∀k,k≤K→Iv n m C (st k)
  en:∀k,k < K→JF n m (st k) (cs k)
  le:∀k,k < K→JM n m (st k) (cs k) (rs k)
  nx:∀k,k < K→st (k+1)=J5 (st k) (rs k) (cs k)
end
section
variable{n m:Nat}{C:Nat→Nat→Int}
variable{st:Nat→Tb}{cs rs:Nat→Nat}{K:Nat}(W:JP n m C st cs rs K)
include W
end
section
variable{n m:Nat}{C:Nat→Nat→Int}
end
open PySem PySem.Spec PyProof.Rows PySem.W
section
variable{prog:MZ}{w:MV}{A:Nb}{R:Result→MP→Prop}
structure JO (I l S:xM) (vs:List Kg) (rs:List (List Int)) (j:Nat) (arr:Array Kg) (c:Nat) (h:MY):Prop where
  it:h.IsListIter I l j
  ls:h.IsList l vs.toArray
  ro:∀(i:Nat) (r:List Int),rs[i]?=some r→∃v,vs[i]?=some v∧Im h v r
  sc:h.get? S=some {cls:=.type "list",dict:=none,data:=.seq arr c,slots:=#[]}
end
section
variable{X:Cx}{K:MS}
end
section
variable{X:Cx}{K:MS}{x y:Str}{p p2 pos:Pos}{i j:Nat}{a c:MU}
end
section
variable{X:Cx}{K:MS}{pos p2:Pos}
end
structure Kn (n m:Nat) (s:Tb):Prop where
  d:Bt 1900 s.d
  t:∀i,i≤m→∀j,j≤n→Bt 1900 (s.T i j)
def J1(n m:Nat)(g:Nat→Int)(A:Nat→Nat→Int)(b:Nat→Int)(v i:Nat):Int:=
  if v < n then(if i < m then A i v else if i=m then - g v else 0) else if v≤n+m then(if i=v - n then 1 else 0) else if v=n+m+1 then(if i < m then b i else 0) else 0
section
variable(n m:Nat)(g:Nat→Int)(A:Nat→Nat→Int)(b:Nat→Int)
end
section
variable{n m:Nat}{g:Nat→Int}{A:Nat→Nat→Int}{b:Nat→Int}
end
abbrev TL:=lw × Rat
def rs(f:TL→Rat):List TL→Rat
  | []=>0
  | p::P=>f p+rs f P
def DE(th:Int)(t:lw):Bool:=t.one==th || t.other==th
def Gx(th:Int)(p:TL):Rat:=if DE th p.1=true then(p.1.top:Rat)*p.2 else 0
def F7(th:Int)(p:TL):Rat:=if DE th p.1=true then(p.1.bot:Rat)*p.2 else 0
def FX(p:TL):Rat:=(p.1.bot:Rat)*p.2
def CO(p:TL):Rat:=((p.1.top*p.1.worth:Int):Rat)*p.2
structure Ct (W:aU) (P:List TL):Prop where
  ties:P.map (·.1)=W.ties
  nn:∀p∈P,0≤p.2
  once:∀p∈P,FX p≤1
  keep:∀k:Nat,(k:Int) < W.things→rs (Gx k) P≤1
  bear:∀k:Nat,(k:Int) < W.things→rs (F7 k) P≤(W.pat.getD k 0:Rat)
  ask:rs FX P≤(W.asks:Rat)
structure Ke (W:aU) (V:Rat):Prop where
  ex:∃P,Ct W P∧rs CO P=V
  top:∀P,Ct W P→rs CO P≤V
structure Up (t t':lw) (r:Rat):Prop where
  one:t'.one=t.one
  other:t'.other=t.other
  r0:0≤r
  top:(t'.top:Rat)*r≤(t.top:Rat)
  bot:(t'.bot:Rat)*r≤(t.bot:Rat)
  gain:((t.top*t.worth:Int):Rat)≤((t'.top*t'.worth:Int):Rat)*r
def tj(W:aU)(j:Nat):lw:=W.ties.getD j ⟨0,0,0,0,0⟩
def wT(W:aU):Nat:=W.things.toNat
section
variable{W:aU}
end
section
variable{n m:Nat}{g:Nat→Int}{A:Nat→Nat→Int}{b:Nat→Int}
end
def hG(W:aU)(j:Nat):Int:=(tj W j).worth
def hA(W:aU)(i j:Nat):Int:=if DE (i:Int) (tj W j)=true then 1 else 0
def hO(_:Nat):Int:=1
abbrev hC(W:aU):Nat→Nat→Int:=J1 W.ties.length (wT W) (hG W) (hA W) hO
def hS(c:Int→Bool)(i:Nat):Int:=if c (i:Int)=true then 1 else -1
section
variable{W:aU}(ok:W.Ok){c:Int→Bool}(hc:∀t∈W.ties,c t.one≠c t.other)
include ok hc
end
structure JL (W:aU) (X Y:Nat→Int):Prop where
  x01:∀j,j < W.ties.length→X j=0∨X j=1
  one:∀i,i < wT W→sm (fun j=>hA W i j*X j) W.ties.length≤1
  y0:∀i,0≤Y i
  paid:∀j,j < W.ties.length→hG W j≤Y (tj W j).one.toNat+Y (tj W j).other.toNat
  eq:sm Y (wT W)=sm (fun j=>hG W j*X j) W.ties.length
inductive Ob where
  /-- a desk: its attributes -/
  | dk (fs:List (Str × MT))
  /-- a tuple of two own lists -/
  | st (xs ys:List MT)
def h_(K:MS)(F:Hp):List (Str × MT)→List (Str × V)→Prop
  | [],gs=>gs=[]
  | p::r,gs=>∃v hs,gs=(p.1,v)::hs∧DA K F p.2 v∧h_ K F r hs
theorem h_.mono{K:MS}{F F':Hp}(h:ao F F'):∀{fs:List (Str × MT)} {gs:List (Str × V)},h_ K F fs gs→h_ K F' fs gs
  | [],_,q=>q
  | _::_,_,⟨v,hs,e,a,b⟩=>⟨v,hs,e,a.mono h,h_.mono h b⟩
theorem h_.len{K:MS}{F:Hp}:∀{fs:List (Str × MT)} {gs:List (Str × V)},h_ K F fs gs→gs.length=fs.length
  | [],_,q=>by rw [show _=[] from q];rfl
  | _::_,_,⟨v,hs,e,a,b⟩=>by rw [e];simp [h_.len b]
theorem h_.get{K:MS}{F:Hp}{f:Str}{x:MT}:∀{fs:List (Str × MT)} {gs:List (Str × V)},h_ K F fs gs→fs.lookup f=some x→∃v,gs.lookup f=some v∧DA K F x v
  | [],_,_,h=>by cases h
  | (g,y)::r,_,⟨v,hs,e,a,b⟩,h=>by
    subst e
    rw [NP] at h ⊢
    cases c:f==g with
    | true=>rw [c] at h;cases h;exact⟨v,rfl,a⟩
    | false=>rw [c] at h;exact h_.get b h
def kW(f:Str)(x:MT):List (Str × MT)→List (Str × MT)
  | []=>[(f,x)]
  | (g,y)::r=>if g=f then(g,x)::r else(g,y)::kW f x r
theorem h_.put{K:MS}{F:Hp}{f:Str}{x:MT}{v:V}(hx:DA K F x v):∀{fs:List (Str × MT)} {gs:List (Str × V)},h_ K F fs gs→h_ K F (kW f x fs) (gX f v gs)
  | [],_,q=>by rw [show _=[] from q];exact⟨v,[],rfl,hx,rfl⟩
  | (g,y)::r,_,⟨u,hs,e,a,b⟩=>by
    subst e
    by_cases c:g=f
    · simp only [kW,gX,if_pos c];exact⟨v,hs,rfl,hx,b⟩
    · simp only [kW,gX,if_neg c];exact⟨u,_,rfl,a,h_.put hx b⟩
theorem h_.none{K:MS}{F:Hp}{f:Str}:∀{fs:List (Str × MT)} {gs:List (Str × V)},h_ K F fs gs→fs.lookup f=none→gs.lookup f=none
  | [],_,q,_=>by rw [show _=[] from q];rfl
  | (g,y)::r,_,⟨v,hs,e,a,b⟩,h=>by
    subst e
    rw [NP] at h ⊢
    cases c:f==g with
    | true=>rw [c] at h;cases h
    | false=>rw [c] at h;exact h_.none b h
def jI(K:MS)(C:xM)(F H:Hp):Ob→V→List xM→Prop
  | .dk fs,v,as=>∃p dx gs,v=.ref p∧as=[p]∧F p=none∧H p=some (.ins C dx gs)∧h_ K F fs gs
  | .st xs ys,v,as=>∃t l m vs us,v=.ref t∧as=[l,m]∧l≠m∧dN K F t [.ref l,.ref m]∧F l=none∧F m=none∧H l=some (.lst vs)∧H m=some (.lst us)∧aN K F xs vs∧aN K F ys us
def kept:HO→Bool
  | .ins _ _ _=>true
  | .lst _=>true
  | _=>false
theorem jI.at{K:MS}{C:xM}{F H:Hp}{o:Ob}{v:V}{as:List xM}(h:jI K C F H o v as):∀a∈as,F a=none∧∃u,H a=some u∧kept u=true:=by
  cases o with
  | dk fs=>
    obtain⟨p,dx,gs,rfl,rfl,h1,h2,_⟩:=h
    intro a ha
    rw [NN] at ha
    subst ha
    exact⟨h1,_,h2,rfl⟩
  | st xs ys=>
    obtain⟨t,l,m,vs,us,rfl,rfl,h0,h1,h2,h3,h4,h5,_⟩:=h
    intro a ha
    rcases MQ ha with z | z
    · rw [z];exact⟨h2,_,h4,rfl⟩
    · rw [NN] at z;rw [z];exact⟨h3,_,h5,rfl⟩
theorem jI.mono{K:MS}{C:xM}{F H F' H':Hp}{o:Ob}{v:V}{as:List xM}(h:jI K C F H o v as)(s:ao F F')(hf:∀a∈as,F' a=none)(hh:∀a∈as,H' a=H a):jI K C F' H' o v as:=by
  cases o with
  | dk fs=>
    obtain⟨p,dx,gs,rfl,rfl,h1,h2,h3⟩:=h
    exact⟨p,dx,gs,rfl,rfl,hf p (by simp),by rw [hh p (by simp)];exact h2,h3.mono s⟩
  | st xs ys=>
    obtain⟨t,l,m,vs,us,rfl,rfl,h0,h1,h2,h3,h4,h5,h6,h7⟩:=h
    exact⟨t,l,m,vs,us,rfl,rfl,h0,s.tup h1,hf l (by simp),hf m (by simp),by rw [hh l (by simp)];exact h4,by rw [hh m (by simp)];exact h5,h6.mono s,h7.mono s⟩
inductive Lc where
  | s (i:Nat)
  | it (i k:Nat)
  deriving DecidableEq
def Lc.slot:Lc→Nat
  | .s i=>i
  | .it i _=>i
def lx(K:MS)(F:Hp)(σ:L2.St):Lc→V→Prop
  | .s i,v=>σ[i]?=some (some v)
  | .it i k,v=>∃l vs,σ[i]?=some (some (.ref l))∧F l=some (.lst vs)∧vs[k]?=some v
theorem lx.mono{K:MS}{F F':Hp}{σ σ':L2.St}{c:Lc}{v:V}(h:lx K F σ c v)(s:ao F F')(e:σ'[c.slot]?=σ[c.slot]?):lx K F' σ' c v:=by
  cases c with
  | s i=>exact e.trans h
  | it i k=>obtain⟨l,vs,h1,h2,h3⟩:=h;exact⟨l,vs,e.trans h1,s _ _ h2,h3⟩
theorem lx.uniq{K:MS}{F:Hp}{σ:L2.St}{c:Lc}{v w:V}(h:lx K F σ c v)(h':lx K F σ c w):v=w:=by
  cases c with
  | s i=>have e1:σ[i]?=_:=h;have e2:σ[i]?=_:=h';rw [e1] at e2;cases e2;rfl
  | it i k=>
    obtain⟨l,us,e1,e2,e3⟩:=h
    obtain⟨l',us',e1',e2',e3'⟩:=h'
    rw [e1] at e1';cases e1'
    rw [e2] at e2';cases e2'
    rw [e3] at e3';cases e3';rfl
abbrev hX:=List (Lc × Ob)
def Fo(ob:hX)(fp:Lc→List xM)(a:xM):Prop:=∃p∈ob,a∈fp p.1
structure aX (K:MS) (C:xM) (F H:Hp) (σ:L2.St) (e:En) (ob:hX) (fp:Lc→List xM):Prop where
  rel:aY K F H σ e
  obs:∀p∈ob,e[p.1.slot]?=some none∧∃v,lx K F σ p.1 v∧jI K C F H p.2 v (fp p.1)
  dis:∀p∈ob,∀q∈ob,p.1≠q.1→∀a∈fp p.1,a∉fp q.1
  own:∀a,Fo ob fp a→¬bw σ e H a
structure bE (W:List Nat) (σ:L2.St) (F H:Hp) (e:En) (S:xM→Prop) (σ':L2.St) (F' H':Hp) (e':En) (S':xM→Prop):Prop where
  sf:ao F F'
  dom:∀a,H' a=none→H a=none
  fr:∀a vs,F a=none→H a=some (.lst vs)→¬bw σ e H a→¬S a→F' a=none
  lst:∀a vs,H a=some (.lst vs)→∃vs',H' a=some (.lst vs')
  tmp:∀a o,H a=some o→¬bw σ e H a→¬S a→H' a=some o
  own:∀a,bw σ' e' H' a∨S' a→(bw σ e H a∨S a)∨H a=none
  wr:∀j,j∉W→σ'[j]?=σ[j]?
  fd:∀a (m:DI),F a=none→H a=some m.1→¬bw σ e H a→¬S a→F' a=none
section
variable{K:MS}{C:xM}{W W1 W2:List Nat}{σ σ' σ1 σ2:L2.St}{F H F' H' F1 H1 F2 H2:Hp}{e e' e1 e2:En}{ob ob':hX}{fp fp':Lc→List xM}{S S' S1 S2:xM→Prop}
theorem bE.refl:bE W σ F H e S σ F H e S:=⟨ao.refl _,fun _ h=>h,fun _ _ h _ _ _=>h,fun _ vs h=>⟨vs,h⟩,fun _ _ h _ _=>h,fun _ h=>.inl h,fun _ _=>rfl,fun _ _ h _ _ _=>h⟩
theorem bE.no(x:bE W σ F H e S σ1 F1 H1 e1 S1){a:xM}(n1:¬bw σ e H a)(n2:¬S a){o:HO}(h:H a=some o):¬bw σ1 e1 H1 a∧¬S1 a:=by
  have k:¬(bw σ1 e1 H1 a∨S1 a):=fun z=>(x.own a z).elim (fun z=>z.elim n1 n2) fun z=>by rw [h] at z;cases z
  exact⟨fun z=>k (.inl z),fun z=>k (.inr z)⟩
theorem bE.trans(x:bE W σ F H e S σ1 F1 H1 e1 S1)(y:bE W σ1 F1 H1 e1 S1 σ2 F2 H2 e2 S2):bE W σ F H e S σ2 F2 H2 e2 S2:=
  ⟨x.sf.trans y.sf,fun a h=>x.dom a (y.dom a h),fun a vs h n n1 n2=>let ⟨vs',q⟩:=x.lst a vs n;y.fr a vs' (x.fr a vs h n n1 n2) q (x.no n1 n2 n).1 (x.no n1 n2 n).2,fun a vs h=>let ⟨vs',q⟩:=x.lst a vs h;y.lst a vs' q,
    fun a o h n1 n2=>y.tmp a o (x.tmp a o h n1 n2) (x.no n1 n2 h).1 (x.no n1 n2 h).2,fun a h=>(y.own a h).elim (x.own a) (fun z=>.inr (x.dom a z)),fun j h=>(y.wr j h).trans (x.wr j h),
    fun a m h n n1 n2=>y.fd a m (x.fd a m h n n1 n2) (x.tmp a _ n n1 n2) (x.no n1 n2 n).1 (x.no n1 n2 n).2⟩
theorem bE.mono(x:bE W1 σ F H e S σ' F' H' e' S')(h:∀j,j∈W1→j∈W):bE W σ F H e S σ' F' H' e' S':=⟨x.sf,x.dom,x.fr,x.lst,x.tmp,x.own,fun j n=>x.wr j fun z=>n (h j z),x.fd⟩
theorem aX.at(R:aX K C F H σ e ob fp){a:xM}(h:Fo ob fp a):F a=none∧∃u,H a=some u∧kept u=true:=by
  obtain⟨p,hp,ha⟩:=h
  obtain⟨_,v,_,h2⟩:=R.obs p hp
  exact h2.at a ha
def okO(ob:hX)(e:En):Bool:=ob.all fun p=>match e[p.1.slot]? with
  | some none=>true
  | _=>false
theorem y9(h:okO ob e=true){p:Lc × Ob}(hp:p∈ob):e[p.1.slot]?=some none:=by
  have:=NQ.mp h p hp
  split at this
  · rename_i heq;exact heq
  · cases this
theorem aX.okO(R:aX K C F H σ e ob fp):L2.okO ob e=true:=NQ.mpr fun p hp=>by rw [(R.obs p hp).1]
theorem aX.hn(R:aX K C F H σ e ob fp):∀a,Fo ob fp a→H a≠none:=fun a ha=>by
  obtain⟨_,u,h,_⟩:=R.at ha
  rw [h];simp
theorem aX.next(R:aX K C F H σ e ob fp)(x:cY W σ F H e σ' F' H' e')(hw:∀p∈ob,p.1.slot∉W)(he:L2.okO ob e'=true)(R':aY K F' H' σ' e'):
    bE W σ F H e (Fo ob fp) σ' F' H' e' (Fo ob fp)∧aX K C F' H' σ' e' ob fp:=by
  have hh:∀a,Fo ob fp a→H' a=H a:=fun a ha=>by
    obtain⟨_,u,h1,_⟩:=R.at ha
    rw [h1];exact x.tmp a u h1 (R.own a ha)
  have f0:∀a,Fo ob fp a→F' a=none:=fun a ha=>by
    obtain⟨g1,u,g2,g3⟩:=R.at ha
    cases u with
    | ins c d fs=>exact x.fd a ⟨_,rfl⟩ g1 g2 (R.own a ha)
    | lst vs=>exact x.fr a vs g1 g2 (R.own a ha)
    | _=>cases g3
  refine⟨⟨x.sf,x.dom,fun a vs h1 h2 h3 _=>x.fr a vs h1 h2 h3,x.lst,fun a o h1 h2 _=>x.tmp a o h1 h2,?_,x.wr,fun a m h1 h2 h3 _=>x.fd a m h1 h2 h3⟩,R',fun p hp=>⟨y9 he hp,?_⟩,R.dis,fun a ha z=>?_⟩
  · rintro a (z | z)
    · exact(x.own a z).imp_left .inl
    · exact .inl (.inr z)
  · obtain⟨_,v,h1,h2⟩:=R.obs p hp
    exact⟨v,h1.mono x.sf (x.wr _ (hw p hp)),h2.mono x.sf (fun a ha=>f0 a ⟨p,hp,ha⟩) (fun a ha=>hh a ⟨p,hp,ha⟩)⟩
  · rcases x.own a z with z | z
    · exact R.own a ha z
    · exact R.hn a ha z
end
abbrev EX:=En × hX
abbrev XE:=EX→Option (MT × EX)
abbrev XT:=EX→Option (Bool × EX)
abbrev XA:=EX→Option (List MT × EX)
def hZ(K:MS)(C:xM)(f:XE):TE:=fun σ H Q=>∃F x fp r x',aX K C F H σ x.1 x.2 fp∧f x=some (r,x')∧∀F' H' v fp',bE [] σ F H x.1 (Fo x.2 fp) σ F' H' x'.1 (Fo x'.2 fp')→aX K C F' H' σ x'.1 x'.2 fp'→DA K F' r v→Q v H'
def rT(K:MS)(C:xM)(f:XT):TT:=fun σ H Q=>∃F x fp b x',aX K C F H σ x.1 x.2 fp∧f x=some (b,x')∧∀F' H' fp',bE [] σ F H x.1 (Fo x.2 fp) σ F' H' x'.1 (Fo x'.2 fp')→aX K C F' H' σ x'.1 x'.2 fp'→Q b H'
def AR(K:MS)(C:xM)(f:XA):TA:=fun σ H Q=>∃F x fp rs x',aX K C F H σ x.1 x.2 fp∧f x=some (rs,x')∧∀F' H' vs fp',bE [] σ F H x.1 (Fo x.2 fp) σ F' H' x'.1 (Fo x'.2 fp')→aX K C F' H' σ x'.1 x'.2 fp'→aN K F' rs vs→Q vs H'
section
variable{K:MS}{C:xM}{W:List Nat}{σ σ0:L2.St}{F H F' H' F0 H0:Hp}{e e' e0:En}{ob:hX}{fp:Lc→List xM}{S:xM→Prop}
theorem aX.toD{r:Rv}{d:MT}{v:V}{H1:Hp}(Y:bE W σ0 F0 H0 e0 S σ F H e (Fo ob fp))(R:aX K C F H σ e ob fp)(hd:∀a,H1 a=none→H0 a=none)(hn:∀a,Fo ob fp a→H1 a≠none)(A:bZ K σ H1 F H e r v)(h:gM r=some d):
    ∃F2,bE W σ0 F0 H0 e0 S σ F2 H e (Fo ob fp)∧aX K C F2 H σ e ob fp∧DA K F2 d v:=by
  cases r with
  | d x=>cases h;exact⟨F,Y,R,A⟩
  | s i=>cases h
  | l xs=>
    cases h
    obtain⟨F2,R2,s2,D2,f2⟩:=A.frozen R.rel
    have nh:∀a o,H0 a=some o→H1 a≠none:=fun a o z w=>by rw [hd a w] at z;cases z
    exact⟨F2,⟨Y.sf.trans s2,Y.dom,fun a vs h1 h2 h3 h4=>f2 a (Y.fr a vs h1 h2 h3 h4) (nh a _ h2),Y.lst,Y.tmp,Y.own,Y.wr,fun a m h1 h2 h3 h4=>f2 a (Y.fd a m h1 h2 h3 h4) (nh a _ h2)⟩,
      ⟨R2,fun p hp=>let ⟨c1,u,c2,c3⟩:=R.obs p hp;⟨c1,u,c2.mono s2 rfl,c3.mono s2 (fun a ha=>f2 a (R.at ⟨p,hp,ha⟩).1 (hn a ⟨p,hp,ha⟩)) fun _ _=>rfl⟩,R.dis,R.own⟩,D2⟩
theorem aX.pure(R:aX K C F H σ e ob fp)(X:cS σ F H e F' H' e')(R':aY K F' H' σ e')(he:L2.okO ob e'=true):bE [] σ F H e (Fo ob fp) σ F' H' e' (Fo ob fp)∧aX K C F' H' σ e' ob fp:=R.next X.s (fun _ _=>by simp) he R'
theorem aX.pure0(R:aX K C F H σ e ob fp)(X:cS σ F H e F' H' e)(R':aY K F' H' σ e):bE [] σ F H e (Fo ob fp) σ F' H' e (Fo ob fp)∧aX K C F' H' σ e ob fp:=R.pure X R' R.okO
end
section
variable{X:Cx}{K:MS}{C:xM}{a b:MU}{fe:FE}{fa fb:XE}{ft fu:XT}{fs:XA}{pos:Pos}{es:List MU}{cf:List MU}
def aE(f:FE):XE:=fun x=>(f x.1).bind fun p=>(gM p.1).bind fun d=>if okO x.2 p.2=true then some (d,(p.2,x.2)) else none
theorem av(he:PE X a (fE K fe)):PE X a (hZ K C (aE fe)):=he.mono fun σ H Q h=>by
  obtain⟨F,x,as,r,x',R,hf,q⟩:=h
  unfold aE at hf
  obtain⟨⟨r1,e1⟩,h1,hf⟩:=MJ hf
  obtain⟨d,h2,hf⟩:=MJ hf
  split at hf
  case isFalse=>cases hf
  case isTrue ho=>
  cases hf
  refine⟨F,x.1,r1,e1,R.rel,h1,fun F' H' v X' R' A'=>?_⟩
  obtain⟨Y,R2⟩:=R.pure X' R' ho
  obtain⟨F2,Y2,R3,D⟩:=aX.toD Y R2 (fun _ z=>z) R.hn A' h2
  exact q F2 H' v as Y2 R3 D
def gn(f:FT):XT:=fun x=>(f x.1).bind fun p=>if okO x.2 p.2=true then some (p.1,(p.2,x.2)) else none
theorem gY{ft:FT}(he:PT X a (fT K ft)):PT X a (rT K C (gn ft)):=he.mono fun σ H Q h=>by
  obtain⟨F,x,as,r,x',R,hf,q⟩:=h
  unfold gn at hf
  obtain⟨⟨r1,e1⟩,h1,hf⟩:=MJ hf
  split at hf
  case isFalse=>cases hf
  case isTrue ho=>
  cases hf
  refine⟨F,x.1,r1,e1,R.rel,h1,fun F' H' X' R'=>?_⟩
  obtain⟨Y,R2⟩:=R.pure X' R' ho
  exact q F' H' as Y R2
def hV(g:En→Rv→Rv→Option Rv)(fa fb:XE):XE:=fun x=>(fa x).bind fun p=>(fb p.2).bind fun q=>(g q.2.1 (.d p.1) (.d q.1)).bind fun z=>(gM z).map fun d=>(d,q.2)
theorem rR{r:R2}{g:En→Rv→Rv→Option Rv}(ho:f_ K r g){σ:L2.St}{H:Hp}{Q:VK}(h:hZ K C (hV g fa fb) σ H Q):FQ r (hZ K C fa) (hZ K C fb) σ H Q:=by
  obtain⟨F,x,as,z,x',R,hf,q⟩:=h
  unfold hV at hf
  obtain⟨⟨y,x1⟩,h1,hf⟩:=MJ hf
  obtain⟨⟨y2,x2⟩,h2,hf⟩:=MJ hf
  obtain⟨z',h3,hf⟩:=MJ hf
  obtain⟨d,h4,hf⟩:=ML hf
  cases hf
  refine⟨F,x,as,y,x1,R,h1,fun F1 H1 v as1 X1 R1 A1=>⟨F1,x1,as1,y2,_,R1,h2,fun F2 H2 u as2 X2 R2 A2=>?_⟩⟩
  refine ho σ H F2 H2 _ (.d y) (.d y2) z' v u Q R2.rel (show DA K F2 y v from A1.mono X2.sf) (show DA K F2 y2 u from A2) h3 fun F3 H3 w X3 R3 A3=>?_
  obtain⟨Y,R4⟩:=R2.pure0 X3 R3
  obtain⟨F4,Y4,R5,D⟩:=aX.toD Y R4 (fun _ z=>z) R2.hn A3 h4
  exact q F4 H3 w _ ((X1.trans X2).trans Y4) R5 D
theorem EV{op:Operator}{r:R2}{g:En→Rv→Rv→Option Rv}(hr:gf X (NM op) r)(ho:f_ K r g)(ha:PE X a (hZ K C fa))(hb:PE X b (hZ K C fb)):PE X (.BinOp a op b pos) (hZ K C (hV g fa fb)):=(CW hr ha hb).mono fun _ _ _ h=>rR ho h
theorem ES(hK:X.K=K)(ha:PE X a (hZ K C fa))(hb:PE X b (hZ K C fb)):PE X (.BinOp a .Add b pos) (hZ K C (hV cx fa fb)):=EV (hK ▸ vP) Cy ha hb
theorem zA(hK:X.K=K)(ha:PE X a (hZ K C fa))(hb:PE X b (hZ K C fb))(hs:kg b):PE X (.Subscript a b pos) (hZ K C (hV dM fa fb)):=(zh (hK ▸ Gu) ha hb hs).mono fun _ _ _ h=>rR Gw h
def boolD:MT→Option Bool
  | .bool b=>some b
  | _=>none
theorem xY{F:Hp}{d:MT}{v:V}{b:Bool}(h:DA K F d v)(q:boolD d=some b):v=.bl b:=by
  unfold boolD at q
  split at q
  · cases q;exact cT.mp h
  · cases q
def ci(f:XE):XT:=fun x=>(f x).bind fun p=>(boolD p.1).map fun b=>(b,p.2)
theorem qz{σ:L2.St}{H:Hp}{Q:Bool→Hp→Prop}(h:rT K C (ci fa) σ H Q):hZ K C fa σ H fun x H'=>∃k,x=.bl k∧Q k H':=by
  obtain⟨F,x,as,b,x1,R,hf,q⟩:=h
  unfold ci at hf
  obtain⟨⟨y,x1'⟩,h1,hf⟩:=MJ hf
  obtain⟨b',h3,hf⟩:=ML hf
  cases hf
  exact⟨F,x,as,y,_,R,h1,fun F1 H1 v as1 X1 R1 A1=>⟨_,xY A1 h3,q F1 H1 as1 X1 R1⟩⟩
theorem mV{op:CmpOp}{g:En→Rv→Rv→Option Rv}(h:mE X K op g)(ha:PE X a (hZ K C fa))(hb:PE X b (hZ K C fb))(hm:Ov op b=false):PT X (.Compare a [op] [b] pos) (rT K C (ci (hV g fa fb))):=by
  obtain⟨r,h1,h2⟩:=h.ex
  exact(vT h1 ha hb hm).mono fun σ H Q h=>by
    obtain⟨F,x,as,z,x2,R,hf,q⟩:=qz h
    exact rR h2 ⟨F,x,as,z,x2,R,hf,q⟩
theorem wa{e:MU}(h:PE X e (hZ K C fa))(he:∀whole,isTrue e X.env whole=(do let v ←whole;standAt e.pos;holding [v] (truthy v))):PT X e (rT K C (ci fa)):=(zy h he).mono fun _ _ _ h=>qz h
def vk(f g:XT):XT:=fun e=>(f e).bind fun p=>if p.1=true then some (true,p.2) else g p.2
def jS(f:XT):XT:=fun e=>(f e).map fun p=>(!p.1,p.2)
theorem Ck{σ:L2.St}{H:Hp}{Q:Bool→Hp→Prop}(h:rT K C (vk ft fu) σ H Q):IZ (rT K C ft) (rT K C fu) σ H Q:=by
  obtain⟨F,e,as,b,e1,R,hf,q⟩:=h
  unfold vk at hf
  obtain⟨⟨x,e1'⟩,h1,hf⟩:=MJ hf
  refine⟨F,e,as,x,e1',R,h1,fun F1 H1 as1 X1 R1=>?_⟩
  cases x with
  | false=>exact⟨F1,e1',as1,b,e1,R1,hf,fun F2 H2 as2 X2 R2=>q F2 H2 as2 (X1.trans X2) R2⟩
  | true=>cases hf;exact q F1 H1 as1 X1 R1
theorem B1(ha:PT X a (rT K C ft)):PW X (.BoolOp .Or [a] pos) (rT K C ft):=zz ha
theorem E2(ha:PT X a (rT K C ft))(hb:PW X (.BoolOp .Or (b::cf) pos) (rT K C fu)):PW X (.BoolOp .Or (a::b::cf) pos) (rT K C (vk ft fu)):=(CZ ha hb).mono fun _ _ _ h=>Ck h
theorem v_(ha:PT X a (rT K C ft)):PT X (.UnaryOp .Not a pos) (rT K C (jS ft)):=(zx ha).mono fun σ H Q h=>by
  obtain⟨F,e,as,b,e1,R,hf,q⟩:=h
  unfold jS at hf
  obtain⟨⟨x,e1'⟩,h1,hf⟩:=ML hf
  cases hf
  exact⟨F,e,as,x,_,R,h1,fun F1 H1 as1 X1 R1=>q F1 H1 as1 X1 R1⟩
theorem GZ{e:MU}(h:PW X e (rT K C ft)):PT X e (rT K C ft):=h.pt
def vh(t:XT)(f g:XE):XE:=fun e=>(t e).bind fun p=>if p.1=true then f p.2 else g p.2
theorem qg{c:MU}(hc:PT X c (rT K C ft))(ha:PE X a (hZ K C fa))(hb:PE X b (hZ K C fb)):PE X (.IfExp c a b pos) (hZ K C (vh ft fa fb)):=(tL hc ha hb).mono fun σ H Q h=>by
  obtain⟨F,e,as,z,e2,R,hf,q⟩:=h
  unfold vh at hf
  obtain⟨⟨x,e1⟩,h1,hf⟩:=MJ hf
  refine⟨F,e,as,x,e1,R,h1,fun F1 H1 as1 X1 R1=>?_⟩
  cases x with
  | true=>exact⟨F1,e1,as1,z,e2,R1,hf,fun F2 H2 w as2 X2 R2 A2=>q F2 H2 w as2 (X1.trans X2) R2 A2⟩
  | false=>exact⟨F1,e1,as1,z,e2,R1,hf,fun F2 H2 w as2 X2 R2 A2=>q F2 H2 w as2 (X1.trans X2) R2 A2⟩
def iX:XA:=fun e=>some ([],e)
def bX(fa:XE)(fs:XA):XA:=fun e=>(fa e).bind fun p=>(fs p.2).map fun q=>(p.1::q.1,q.2)
theorem kX:PA X [] (AR K C iX):=fP.mono fun σ H Q h=>by
  obtain⟨F,e,as,r,e',R,hf,q⟩:=h
  cases hf
  exact q F H [] as bE.refl R aN.nil
theorem jP(ha:PE X a (hZ K C fa))(hr:PA X es (AR K C fs))(h:Pc a=false):PA X (a::es) (AR K C (bX fa fs)):=(tJ ha hr h).mono fun σ H Q h=>by
  obtain⟨F,e,as,z,e2,R,hf,q⟩:=h
  unfold bX at hf
  obtain⟨⟨x,e1⟩,h1,hf⟩:=MJ hf
  obtain⟨⟨xs,e2'⟩,h2,hf⟩:=ML hf
  cases hf
  refine⟨F,e,as,x,e1,R,h1,fun F1 H1 v as1 X1 R1 A1=>⟨F1,e1,as1,xs,_,R1,h2,fun F2 H2 vs as2 X2 R2 A2=>?_⟩⟩
  exact q F2 H2 (v::vs) as2 (X1.trans X2) R2 (.cons (A1.mono X2.sf) A2)
theorem C8{F H0 H:Hp}{σ:L2.St}{e:En}:∀{ds:List MT} {vs:List V},aN K F ds vs→dr K σ H0 F H e (ds.map .d) vs
  | [],_,h=>by simp only [aN] at h;exact h
  | d::ds,_,h=>by
    simp only [aN] at h
    obtain⟨x,r,rfl,h1,h2⟩:=h
    exact⟨x,r,rfl,h1,C8 h2⟩
def rQ(g:En→List Rv→Option Rv)(fs:XA):XE:=fun x=>(fs x).bind fun p=>(g p.2.1 (p.1.map .d)).bind fun z=>(gM z).map fun d=>(d,p.2)
theorem qx{r:List V→Hp→VK→Prop}{g:En→List Rv→Option Rv}(ho:cJ K r g){σ:L2.St}{H:Hp}{Q:VK}(h:hZ K C (rQ g fs) σ H Q):HR r (AR K C fs) σ H Q:=by
  obtain⟨F,x,as,z,x2,R,hf,q⟩:=h
  unfold rQ at hf
  obtain⟨⟨ds,x1⟩,h1,hf⟩:=MJ hf
  obtain⟨z',h3,hf⟩:=MJ hf
  obtain⟨d,h4,hf⟩:=ML hf
  cases hf
  refine⟨F,x,as,ds,_,R,h1,fun F1 H1 vs as1 X1 R1 A1=>?_⟩
  refine ho σ H F1 H1 _ _ _ vs Q R1.rel (C8 A1) h3 fun F3 H3 w X3 R3 A3=>?_
  obtain⟨Y,R4⟩:=R1.pure0 X3 R3
  obtain⟨F4,Y4,R5,D⟩:=aX.toD Y R4 (fun _ z=>z) R1.hn A3 h4
  exact q F4 H3 w _ (X1.trans Y4) R5 D
theorem ET{x:Str}{g:En→List Rv→Option Rv}(h:jU X K x g)(hg:Gl X x)(hm:X.mg x=none)(ha:PA X (a::es) (AR K C fs))(hn:x≠"__name__")(hdb:(x==("__debug__":Str))=false){p:Pos}
    (he:Nf (a::es) X.env=(false,Nh a X.env)::Nf es X.env)(hpl:(Nr pos (Nf es X.env)).any (·.1)=false):PE X (.Call (.Name x p) (a::es) [] pos) (hZ K C (rQ g fs)):=by
  rcases h.ex with ⟨id,r,h1,h2,h3⟩ | ⟨T,r,h1,h2,h3⟩
  · exact(ou h1 hg hm h3 ha hn hdb he hpl).mono fun _ _ _ h=>qx h2 h
  · exact(qe h1 hg hm h3 ha hn hdb he hpl).mono fun _ _ _ h=>qx h2 h
def Fy(fa:XE)(lo hi:Option Int):XE:=fun x=>(fa x).bind fun p=>(Gc p.2.1 (.d p.1) lo hi).bind fun z=>(gM z).map fun d=>(d,p.2)
def bQ(i:Nat)(f:Str):XE:=fun x=>match x.2.lookup (.s i) with
  | some (.dk fs)=>(fs.lookup f).map fun d=>(d,x)
  | _=>none
theorem cP{c:Lc}{o:Ob}:∀{ob:hX},ob.lookup c=some o→(c,o)∈ob
  | [],h=>by cases h
  | (c0,o0)::r,h=>by
    rw [NP] at h
    cases k:c==c0 with
    | true=>
      rw [k] at h;cases h
      rw [eq_of_beq k];exact OL
    | false=>
      rw [k] at h
      exact Om _ (cP h)
theorem bN{i:Nat}{x f:Str}{p:Pos}(hK:X.K=K)(cl:ph K C)(na:bB K C f)(ho:PE X (.Name x p) (oX i))(hb:Oh (.Name x p) f X.env (Nh (.Name x p) X.env)=Nh (.Name x p) X.env):PE X (.Attribute (.Name x p) f pos) (hZ K C (bQ i f)):=(EG ho hb).mono fun σ H Q h=>by
  subst hK
  obtain⟨F,e,as,r,e',R,hf,q⟩:=h
  unfold bQ at hf
  split at hf
  case h_2=>cases hf
  case h_1 fs hl=>
  obtain⟨d,h1,hf⟩:=ML hf
  cases hf
  obtain⟨_,v,g1,g2⟩:=R.obs _ (cP hl)
  obtain⟨a,dx,gs,rfl,_,c1,c2,c3⟩:=g2
  obtain⟨u,d1,d2⟩:=c3.get h1
  exact⟨_,g1,a,C,dx,gs,u,rfl,c2,cl,na,d1,q F H u as bE.refl R d2⟩
end
inductive HD where
  | nx (x:EX)
  | bk (x:EX)
  | ct (x:EX)
  | rt (r:MT) (x:EX)
abbrev XS:=EX→Option HD
def l_(K:MS)(C:xM)(W:List Nat)(σ:L2.St)(F H:Hp)(e:En)(S:xM→Prop)(D:pj):HD→Prop
  | .nx x=>∀F' H' σ' fp',bE W σ F H e S σ' F' H' x.1 (Fo x.2 fp')→aX K C F' H' σ' x.1 x.2 fp'→D.nx σ' H'
  | .bk x=>∀F' H' σ' fp',bE W σ F H e S σ' F' H' x.1 (Fo x.2 fp')→aX K C F' H' σ' x.1 x.2 fp'→D.bk σ' H'
  | .ct x=>∀F' H' σ' fp',bE W σ F H e S σ' F' H' x.1 (Fo x.2 fp')→aX K C F' H' σ' x.1 x.2 fp'→D.ct σ' H'
  | .rt r x=>∀F' H' σ' v fp',bE W σ F H e S σ' F' H' x.1 (Fo x.2 fp')→aX K C F' H' σ' x.1 x.2 fp'→DA K F' r v→D.rt v H'
def pX(K:MS)(C:xM)(f:XS)(W:List Nat):TS:=fun D σ H=>∃F x fp fl,aX K C F H σ x.1 x.2 fp∧f x=some fl∧l_ K C W σ F H x.1 (Fo x.2 fp) D fl
theorem l_.later{K:MS}{C:xM}{W W1 W2:List Nat}{σ σ1:L2.St}{F H F1 H1:Hp}{e e1:En}{S S1:xM→Prop}{D:pj}{fl:HD}(h:l_ K C W σ F H e S D fl)(x:bE W1 σ F H e S σ1 F1 H1 e1 S1)(h1:∀j,j∈W1→j∈W)(h2:∀j,j∈W2→j∈W):l_ K C W2 σ1 F1 H1 e1 S1 D fl:=by
  cases fl with
  | nx e'=>exact fun F' H' σ' fp y R=>h F' H' σ' fp ((x.mono h1).trans (y.mono h2)) R
  | bk e'=>exact fun F' H' σ' fp y R=>h F' H' σ' fp ((x.mono h1).trans (y.mono h2)) R
  | ct e'=>exact fun F' H' σ' fp y R=>h F' H' σ' fp ((x.mono h1).trans (y.mono h2)) R
  | rt r e'=>exact fun F' H' σ' v fp y R A=>h F' H' σ' v fp ((x.mono h1).trans (y.mono h2)) R A
section
variable{X:Cx}{K:MS}{C:xM}{W W1 W2:List Nat}{st:Na}{cf bs cs:List Na}{f g:XS}{f0:FS}{ft:XT}{fa:XE}{pos:Pos}{a c:MU}
def jO(W:List Nat)(ob:hX):Bool:=ob.all fun p=> !W.contains p.1.slot
theorem oo{ob:hX}(h:jO W ob=true):∀p∈ob,p.1.slot∉W:=fun p hp z=>by
  have:=NQ.mp h p hp
  simp [z] at this
def de(W:List Nat)(f:FS):XS:=fun x=>if jO W x.2=true then(f x.1).bind fun fl=>match fl with
  | .nx e=>if okO x.2 e=true then some (.nx (e,x.2)) else none
  | .bk e=>if okO x.2 e=true then some (.bk (e,x.2)) else none
  | .ct e=>if okO x.2 e=true then some (.ct (e,x.2)) else none
  | .rt r e=>(gM r).bind fun d=>if okO x.2 e=true then some (.rt d (e,x.2)) else none else none
theorem Bg{D:pj}{σ:L2.St}{H:Hp}(h:pX K C (de W f0) W D σ H):fS K f0 W D σ H:=by
  obtain⟨F,x,fp,fl,R,hf,q⟩:=h
  unfold de at hf
  split at hf
  case isFalse=>cases hf
  case isTrue hw=>
  have hw':=oo hw
  obtain⟨fl1,h1,hf⟩:=MJ hf
  refine⟨F,x.1,fl1,R.rel,h1,?_⟩
  cases fl1 with
  | rt r e=>
    obtain⟨d,h2,hf⟩:=MJ hf
    split at hf
    case isFalse=>cases hf
    case isTrue ho=>
    cases hf
    intro F' H' σ' v X' R' A'
    obtain⟨Y,R2⟩:=R.next X' hw' ho R'
    obtain⟨F2,Y2,R3,A⟩:=aX.toD Y R2 (fun _ z=>z) R.hn A' h2
    exact q F2 H' σ' v fp Y2 R3 A
  | nx e=>
    dsimp only at hf
    split at hf
    case isFalse=>cases hf
    case isTrue ho=>
    cases hf
    intro F' H' σ' X' R'
    obtain⟨Y,R2⟩:=R.next X' hw' ho R'
    exact q F' H' σ' fp Y R2
  | bk e=>
    dsimp only at hf
    split at hf
    case isFalse=>cases hf
    case isTrue ho=>
    cases hf
    intro F' H' σ' X' R'
    obtain⟨Y,R2⟩:=R.next X' hw' ho R'
    exact q F' H' σ' fp Y R2
  | ct e=>
    dsimp only at hf
    split at hf
    case isFalse=>cases hf
    case isTrue ho=>
    cases hf
    intro F' H' σ' X' R'
    obtain⟨Y,R2⟩:=R.next X' hw' ho R'
    exact q F' H' σ' fp Y R2
theorem kZ(h:PS X st (fS K f0 W)):PS X st (pX K C (de W f0) W):=h.mono fun _ _ _ h=>Bg h
def dh:XS:=fun x=>some (.nx x)
def bc(f g:XS):XS:=fun x=>(f x).bind fun fl=>match fl with
  | .nx x1=>g x1
  | fl=>some fl
theorem fR:i0 X [] (pX K C dh []):=vS.mono fun D σ H h=>by
  obtain⟨F,x,fp,fl,R,hf,q⟩:=h
  cases hf
  exact q F H σ fp bE.refl R
theorem aQ(h1:PS X st (pX K C f W1))(h2:i0 X cf (pX K C g W2)):i0 X (st::cf) (pX K C (bc f g) (W1++W2)):=(kU h1 h2).mono fun D σ H h=>by
  obtain⟨F,e,fp,fl,R,hf,q⟩:=h
  unfold bc at hf
  obtain⟨fl1,h1,hf⟩:=MJ hf
  have s1:∀j,j∈W1→j∈W1++W2:=fun j h=>Of.mpr (.inl h)
  have s2:∀j,j∈W2→j∈W1++W2:=fun j h=>Of.mpr (.inr h)
  refine⟨F,e,fp,fl1,R,h1,?_⟩
  cases fl1 with
  | nx e1=>exact fun F' H' σ' fp' x R'=>⟨F',e1,fp',fl,R',hf,q.later x s1 s2⟩
  | bk e1=>cases hf;exact fun F' H' σ' fp' x R'=>q F' H' σ' fp' (x.mono s1) R'
  | ct e1=>cases hf;exact fun F' H' σ' fp' x R'=>q F' H' σ' fp' (x.mono s1) R'
  | rt r e1=>cases hf;exact fun F' H' σ' v fp' x R' A=>q F' H' σ' v fp' (x.mono s1) R' A
theorem bg(h1:PS X st (pX K C f W)):i0 X [st] (pX K C f W):=rE h1
def fV(ft:XT)(f g:XS):XS:=fun e=>(ft e).bind fun p=>if p.1=true then f p.2 else g p.2
theorem iL(hc:PT X c (rT K C ft))(ha:i0 X bs (pX K C f W1))(hb:i0 X cs (pX K C g W2)):PS X (.If c bs cs pos) (pX K C (fV ft f g) (W1++W2)):=(CY hc ha hb).mono fun D σ H h=>by
  obtain⟨F,e,fp,fl,R,hf,q⟩:=h
  unfold fV at hf
  obtain⟨⟨x,e1⟩,h1,hf⟩:=MJ hf
  refine⟨F,e,fp,x,e1,R,h1,fun F1 H1 fp1 X1 R1=>?_⟩
  cases x with
  | true=>exact⟨F1,e1,fp1,fl,R1,hf,q.later (W1:=[]) X1 (fun j h=>by cases h) fun j h=>Of.mpr (.inl h)⟩
  | false=>exact⟨F1,e1,fp1,fl,R1,hf,q.later (W1:=[]) X1 (fun j h=>by cases h) fun j h=>Of.mpr (.inr h)⟩
def bS(fa:XE):XS:=fun e=>(fa e).map fun p=>.rt p.1 p.2
theorem cF(he:PE X a (hZ K C fa)):PS X (.Return (some a) pos) (pX K C (bS fa) []):=(uX he).mono fun D σ H h=>by
  obtain⟨F,e,fp,fl,R,hf,q⟩:=h
  obtain⟨⟨x,e1⟩,h1,hf⟩:=ML hf
  cases hf
  exact⟨F,e,fp,x,e1,R,h1,fun F1 H1 v fp1 X1 R1 A1=>q F1 H1 σ v fp1 X1 R1 A1⟩
def lg(i:Nat)(fa:XE):XS:=fun x=>(fa x).bind fun p=>if jO [i] p.2.2=true then some (.nx (p.2.1.set i (some (.d p.1)),p.2.2)) else none
theorem aX.setD{F H:Hp}{σ:L2.St}{e:En}{ob:hX}{fp:Lc→List xM}{i:Nat}{x:MT}{v:V}(R:aX K C F H σ e ob fp)(h:DA K F x v)(hw:jO [i] ob=true):
    bE [i] σ F H e (Fo ob fp) (σ.set i (some v)) F H (e.set i (some (.d x))) (Fo ob fp)∧aX K C F H (σ.set i (some v)) (e.set i (some (.d x))) ob fp:=by
  have hw':=oo hw
  obtain⟨R2,o2⟩:=R.rel.setD i h
  have ne:∀p∈ob,i≠p.1.slot:=fun p hp z=>hw' p hp (by rw [z];simp)
  refine⟨⟨ao.refl _,fun _ z=>z,fun _ _ z _ _ _=>z,fun _ vs z=>⟨vs,z⟩,fun _ _ z _ _=>z,fun a z=>.inl (z.imp_left (o2 a)),fun j n=>Nq (fun z=>n (by simp [z])),fun _ _ z _ _ _=>z⟩,R2,fun p hp=>?_,R.dis,fun a ha z=>R.own a ha (o2 a z)⟩
  obtain⟨c1,u,c2,c3⟩:=R.obs p hp
  exact⟨by rw [Nq (ne p hp)];exact c1,u,c2.mono (ao.refl _) (Nq (ne p hp)),c3⟩
theorem rJ{i:Nat}{x:Str}{pos':Pos}(hN:X.N.Nodup)(hi:X.N[i]?=some x)(hx:xT X.env.scope x)(he:PE X a (hZ K C fa))(hs:OT a (some (.Name x pos')) pos.line X.env=pure false)(hf:X.fn x=true∨X.env.scope.names.lookup x=some .local):
    PS X (.Assign [.Name x pos'] a pos) (pX K C (lg i fa) [i]):=(rD hN hi hx he hs hf).mono fun D σ H h=>by
  obtain⟨F,e,fp,fl,R,hf,q⟩:=h
  unfold lg at hf
  obtain⟨⟨r,e1⟩,h1,hf⟩:=MJ hf
  split at hf
  case isFalse=>cases hf
  case isTrue hw=>
  cases hf
  refine⟨F,e,fp,r,e1,R,h1,fun F1 H1 v fp1 X1 R1 A1=>?_⟩
  obtain⟨Y,R2⟩:=R1.setD A1 hw
  exact q F1 H1 _ fp1 ((X1.mono (fun j h=>by cases h)).trans Y) R2
def lR(c:Lc)(o:Ob)(ob:hX):hX:=ob.map fun p=>if p.1=c then(p.1,o) else p
theorem jk{c:Lc}{o:Ob}{ob:hX}{p:Lc × Ob}:p∈lR c o ob↔ ∃q∈ob,p.1=q.1∧(if q.1=c then p.2=o else p.2=q.2):=by
  unfold lR
  rw [OI]
  constructor
  · rintro⟨q,h1,h2⟩
    refine⟨q,h1,?_⟩
    split at h2
    · rename_i z;subst h2;exact⟨rfl,by rw [if_pos z]⟩
    · rename_i z;subst h2;exact⟨rfl,by rw [if_neg z]⟩
  · rintro⟨q,h1,h2,h3⟩
    refine⟨q,h1,?_⟩
    obtain⟨p1,p2⟩:=p
    dsimp only at h2 h3
    split at h3
    · rename_i z;rw [if_pos z,h3,h2]
    · rename_i z;rw [if_neg z,h2,h3]
theorem aX.put{F H F' H':Hp}{σ:L2.St}{e:En}{ob:hX}{fp:Lc→List xM}{c:Lc}{o:Ob}{fs:List xM}(R:aX K C F H σ e ob fp)(hc:∃u,(c,u)∈ob)(sF:ao F F')(sm:ao F' H')(dom:∀a,H' a=none→H a=none)(lst:∀a vs,H a=some (.lst vs)→∃vs',H' a=some (.lst vs'))
    (tmp:∀a u,H a=some u→a∉fp c→H' a=some u)(fr:∀a,F a=none→(∃u,H a=some u∧(kept u=true∨CQ u=true))→a∉fp c→F' a=none)(hfs:∀a∈fs,a∈fp c∨H a=none)(ho:∀v,lx K F σ c v→(∃u,jI K C F H u v (fp c))→jI K C F' H' o v fs):
    bE [] σ F H e (Fo ob fp) σ F' H' e (Fo (lR c o ob) fun d=>if d=c then fs else fp d)∧aX K C F' H' σ e (lR c o ob) fun d=>if d=c then fs else fp d:=by
  obtain⟨u,hu⟩:=hc
  have nc:∀a,bw σ e H a→a∉fp c:=fun a h z=>R.own a ⟨_,hu,z⟩ h
  obtain⟨R2,o2⟩:=R.rel.keep sF sm (fun a h=>by
    obtain⟨i,hi⟩:=h
    obtain⟨h1,vs,h2⟩:=R.rel.fpAt hi
    exact fr a h1 ⟨_,h2,.inl rfl⟩ (nc a ⟨i,hi⟩)) (fun a o h q=>tmp a o q (nc a h))
  have sub:∀a,Fo (lR c o ob) (fun d=>if d=c then fs else fp d) a→Fo ob fp a∨H a=none:=by
    rintro a ⟨p,hp,ha⟩
    obtain⟨q,h1,h2,h3⟩:=jk.mp hp
    rw [h2] at ha
    by_cases z:q.1=c
    · simp only [if_pos z] at ha
      rcases hfs a ha with w | w
      · exact .inl ⟨_,hu,w⟩
      · exact .inr w
    · simp only [if_neg z] at ha
      exact .inl ⟨q,h1,ha⟩
  refine⟨⟨sF,dom,fun a vs h1 h2 _ h4=>fr a h1 ⟨_,h2,.inl rfl⟩ fun z=>h4 ⟨_,hu,z⟩,lst,fun a u h1 _ h3=>tmp a u h1 fun z=>h3 ⟨_,hu,z⟩,fun a z=>?_,fun _ _=>rfl,fun a m h1 h2 _ h4=>fr a h1 ⟨_,h2,.inr m.2⟩ fun z=>h4 ⟨_,hu,z⟩⟩,R2,fun p hp=>?_,?_,fun a ha z=>?_⟩
  · rcases z with z | z
    · exact .inl (.inl ((o2 a).mp z))
    · exact(sub a z).imp_left .inr
  · obtain⟨q,h1,h2,h3⟩:=jk.mp hp
    obtain⟨c1,v,c2,c3⟩:=R.obs q h1
    rw [h2]
    refine⟨c1,v,c2.mono sF rfl,?_⟩
    by_cases z:q.1=c
    · rw [if_pos z] at h3
      simp only [if_pos z,h3]
      exact ho v (by rw [←z];exact c2) ⟨_,by rw [←z];exact c3⟩
    · rw [if_neg z] at h3
      simp only [if_neg z,h3]
      have nq:∀a∈fp q.1,a∉fp c:=fun a ha=>R.dis q h1 (c,u) hu z a ha
      refine c3.mono sF (fun a ha=>?_) fun a ha=>?_
      · obtain⟨g1,w,g2,g3⟩:=R.at ⟨q,h1,ha⟩
        exact fr a g1 ⟨w,g2,.inl g3⟩ (nq a ha)
      · obtain⟨g1,w,g2,g3⟩:=R.at ⟨q,h1,ha⟩
        rw [g2];exact tmp a w g2 (nq a ha)
  · intro p hp q hq hne a ha
    obtain⟨p0,h1,h2,_⟩:=jk.mp hp
    obtain⟨q0,g1,g2,_⟩:=jk.mp hq
    rw [h2] at ha hne
    rw [g2] at hne
    rw [g2]
    by_cases z:p0.1=c
    · simp only [if_pos z] at ha
      have z2:q0.1≠c:=fun z2=>hne (z.trans z2.symm)
      simp only [if_neg z2]
      intro w
      rcases hfs a ha with k | k
      · exact R.dis q0 g1 (c,u) hu z2 a w k
      · exact R.hn a ⟨q0,g1,w⟩ k
    · simp only [if_neg z] at ha
      by_cases z2:q0.1=c
      · simp only [if_pos z2]
        intro w
        rcases hfs a w with k | k
        · exact R.dis p0 h1 (c,u) hu z a ha k
        · exact R.hn a ⟨p0,h1,ha⟩ k
      · simp only [if_neg z2]
        exact R.dis p0 h1 q0 g1 hne a ha
  · rcases sub a ha with w | w
    · exact R.own a w ((o2 a).mp z)
    · exact R.rel.ownH a ((o2 a).mp z) w
def eN(i:Nat)(f:Str)(fa:XE):XS:=fun x=>(fa x).bind fun p=>match p.2.2.lookup (.s i) with
  | some (.dk fs)=>if fs.length < 900 then some (.nx (p.2.1,lR (.s i) (.dk (kW f p.1 fs)) p.2.2)) else none
  | _=>none
theorem gq{i:Nat}{x f:Str}{p pos':Pos}(hK:X.K=K)(cl:ph K C)(na:bB K C f)(ho:PE X (.Name x p) (oX i))(hv:PE X a (hZ K C fa))(hs:OT a (some (.Attribute (.Name x p) f pos')) pos.line X.env=pure false):
    PS X (.Assign [.Attribute (.Name x p) f pos'] a pos) (pX K C (eN i f fa) []):=(EM ho hv hs).mono fun D σ H h=>by
  subst hK
  obtain⟨F,e,fp,fl,R,hf,q⟩:=h
  unfold eN at hf
  obtain⟨⟨r,e1⟩,h1,hf⟩:=MJ hf
  dsimp only at hf
  split at hf
  case h_2=>cases hf
  case h_1 fs hl=>
  split at hf
  case isFalse=>cases hf
  case isTrue hlen=>
  cases hf
  refine⟨F,e,fp,r,e1,R,h1,fun F1 H1 v fp1 X1 R1 A1=>?_⟩
  have hm:=cP hl
  obtain⟨_,u,g1,g2⟩:=R1.obs _ hm
  have g2':=g2
  obtain⟨a,dx,gs,rfl,ha,c1,c2,c3⟩:=g2
  refine⟨_,g1,a,C,dx,gs,rfl,c2,cl,na,by rw [c3.len];lia,?_⟩
  dsimp only at ha
  obtain⟨Y,R2⟩:=R1.put (c:=.s i) (o:=.dk (kW f r fs)) (fs:=[a]) (F':=F1) (H':=bv H1 a (.ins C dx (gX f v gs))) ⟨_,hm⟩ (ao.refl _)
    (fun b o z=>by
      have:b≠a:=fun w=>by rw [w,c1] at z;cases z
      rw [ar this];exact R1.rel.sm b o z)
    (fun b z=>by
      by_cases w:b=a
      · rw [w,aq] at z;cases z
      · rw [ar w] at z;exact z)
    (fun b vs z=>⟨vs,by
      have:b≠a:=fun w=>by rw [w,c2] at z;cases z
      rw [ar this];exact z⟩)
    (fun b u z w=>by
      rw [ha] at w
      have:b≠a:=fun k=>w (by simp [k])
      rw [ar this];exact z)
    (fun b z _ _=>z) (fun b hb=>.inl (by rw [ha];exact hb))
    (fun v' g1' _=>by
      have g1:σ[i]?=_:=g1
      have g1':σ[i]?=_:=g1'
      rw [g1] at g1';cases g1'
      exact⟨a,dx,_,rfl,rfl,c1,aq,c3.put A1⟩)
  exact q F1 _ σ _ (X1.trans Y) R2
end
section
variable{K:MS}{C:xM}{F H F' H':Hp}{σ:L2.St}{e:En}{ob ob':hX}{fp fp':Lc→List xM}
theorem aX.putM(R:aX K C F H σ e ob fp)(T:Lc→Prop)(hT:∀c,T c→∃u,(c,u)∈ob)(hob:∀p∈ob',∃q∈ob,p.1=q.1∧(¬T q.1→p.2=q.2))(hfp:∀c,¬T c→fp' c=fp c)(sF:ao F F')(sm:ao F' H')(dom:∀a,H' a=none→H a=none)(lst:∀a vs,H a=some (.lst vs)→∃vs',H' a=some (.lst vs'))
    (tmp:∀a u,H a=some u→(∀c,T c→a∉fp c)→H' a=some u)(fr:∀a,F a=none→(∃u,H a=some u∧(kept u=true∨CQ u=true))→(∀c,T c→a∉fp c)→F' a=none)(hfs:∀c,T c→∀a∈fp' c,(∃d,T d∧a∈fp d)∨H a=none)
    (hdis:∀c d,T c→T d→c≠d→∀a∈fp' c,a∉fp' d)(ho:∀p∈ob',T p.1→∀v,lx K F σ p.1 v→jI K C F' H' p.2 v (fp' p.1)):
    bE [] σ F H e (Fo ob fp) σ F' H' e (Fo ob' fp')∧aX K C F' H' σ e ob' fp':=by
  have nc:∀a,bw σ e H a→∀c,T c→a∉fp c:=fun a h c hc z=>let ⟨u,hu⟩:=hT c hc;R.own a ⟨_,hu,z⟩ h
  have nf:∀a,¬Fo ob fp a→∀c,T c→a∉fp c:=fun a h c hc z=>let ⟨u,hu⟩:=hT c hc;h ⟨_,hu,z⟩
  obtain⟨R2,o2⟩:=R.rel.keep sF sm (fun a h=>by
    obtain⟨i,hi⟩:=h
    obtain⟨h1,vs,h2⟩:=R.rel.fpAt hi
    exact fr a h1 ⟨_,h2,.inl rfl⟩ (nc a ⟨i,hi⟩)) (fun a o h q=>tmp a o q (nc a h))
  have sub:∀a,Fo ob' fp' a→Fo ob fp a∨H a=none:=by
    rintro a ⟨p,hp,ha⟩
    obtain⟨q,h1,h2,h3⟩:=hob p hp
    rw [h2] at ha
    by_cases z:T q.1
    · rcases hfs _ z a ha with ⟨d,w,k⟩ | w
      · obtain⟨u,hu⟩:=hT d w
        exact .inl ⟨_,hu,k⟩
      · exact .inr w
    · rw [hfp _ z] at ha
      exact .inl ⟨q,h1,ha⟩
  have dj:∀q∈ob,¬T q.1→∀a∈fp q.1,∀c,T c→a∉fp c:=fun q hq nT a ha c hc=>by
    obtain⟨u,hu⟩:=hT c hc
    exact R.dis q hq _ hu (fun z=>nT (by rw [z];exact hc)) a ha
  refine⟨⟨sF,dom,fun a vs h1 h2 _ h4=>fr a h1 ⟨_,h2,.inl rfl⟩ (nf a h4),lst,fun a u h1 _ h3=>tmp a u h1 (nf a h3),fun a z=>?_,fun _ _=>rfl,fun a m h1 h2 _ h4=>fr a h1 ⟨_,h2,.inr m.2⟩ (nf a h4)⟩,R2,fun p hp=>?_,?_,fun a ha z=>?_⟩
  · rcases z with z | z
    · exact .inl (.inl ((o2 a).mp z))
    · exact(sub a z).imp_left .inr
  · obtain⟨q,h1,h2,h3⟩:=hob p hp
    obtain⟨c1,v,c2,c3⟩:=R.obs q h1
    rw [h2]
    refine⟨c1,v,c2.mono sF rfl,?_⟩
    by_cases z:T q.1
    · have:=ho p hp (by rw [h2];exact z) v (by rw [h2];exact c2)
      rw [h2] at this
      exact this
    · rw [h3 z,hfp _ z]
      have nq:=dj q h1 z
      refine c3.mono sF (fun a ha=>?_) fun a ha=>?_
      · obtain⟨g1,w,g2,g3⟩:=R.at ⟨q,h1,ha⟩
        exact fr a g1 ⟨w,g2,.inl g3⟩ (nq a ha)
      · obtain⟨g1,w,g2,g3⟩:=R.at ⟨q,h1,ha⟩
        rw [g2];exact tmp a w g2 (nq a ha)
  · intro p hp q hq hne a ha
    obtain⟨p0,h1,h2,_⟩:=hob p hp
    obtain⟨q0,g1,g2,_⟩:=hob q hq
    rw [h2] at ha hne
    rw [g2] at hne
    rw [g2]
    by_cases z:T p0.1
    · by_cases z2:T q0.1
      · exact hdis _ _ z z2 hne a ha
      · rw [hfp _ z2]
        intro w
        rcases hfs _ z a ha with ⟨d,k,k2⟩ | k
        · exact dj q0 g1 z2 a w d k k2
        · exact R.hn a ⟨q0,g1,w⟩ k
    · rw [hfp _ z] at ha
      by_cases z2:T q0.1
      · intro w
        rcases hfs _ z2 a w with ⟨d,k,k2⟩ | k
        · exact dj p0 h1 z a ha d k k2
        · exact R.hn a ⟨p0,h1,ha⟩ k
      · rw [hfp _ z2]
        exact R.dis p0 h1 q0 g1 hne a ha
  · rcases sub a ha with w | w
    · exact R.own a w ((o2 a).mp z)
    · exact R.rel.ownH a ((o2 a).mp z) w
theorem aX.beside(R:aX K C F H σ e ob fp)(sF:ao F F')(sm:ao F' H')(dom:∀a,H' a=none→H a=none)(lst:∀a vs,H a=some (.lst vs)→∃vs',H' a=some (.lst vs'))(tmp:∀a u,H a=some u→H' a=some u)
    (fr:∀a,F a=none→(∃u,H a=some u∧(kept u=true∨CQ u=true))→F' a=none):bE [] σ F H e (Fo ob fp) σ F' H' e (Fo ob fp)∧aX K C F' H' σ e ob fp:=
  R.putM (ob':=ob) (fp':=fp) (fun _=>False) (fun _ h=>h.elim) (fun p hp=>⟨p,hp,rfl,fun _=>rfl⟩) (fun _ _=>rfl) sF sm dom lst (fun a u h _=>tmp a u h) (fun a h1 h2 _=>fr a h1 h2) (fun _ h=>h.elim) (fun _ _ h=>h.elim) (fun _ _ h=>h.elim)
theorem qc{ds:List MT}{i:Nat}{s:Sv}(h:((ds.map Sv.d).map some)[i]?=some (some s)):∃x,ds[i]?=some x∧s=.d x:=by
  rw [NF,NF] at h
  cases q:ds[i]? with
  | none=>rw [q] at h;cases h
  | some x=>rw [q] at h;cases h;exact⟨x,rfl,rfl⟩
theorem kN{ds:List MT}{σ:L2.St}{a:xM}:¬bw σ ((ds.map Sv.d).map some) H a:=by
  rintro⟨i,⟨xs,h,_⟩ | ⟨xss,_,_,h,_⟩⟩
  · obtain⟨x,_,z⟩:=qc h;cases z
  · obtain⟨x,_,z⟩:=qc h;cases z
theorem G'(s:ao F H){ds:List MT}{vs:List V}(h:aN K F ds vs):aY K F H (vs.map some) ((ds.map Sv.d).map some):=by
  refine⟨s,by simp [h.len],fun i x hx=>?_,fun i xs hx=>?_,fun i xss hx=>?_,fun i j a hi _=>absurd ⟨i,hi⟩ kN⟩
  · obtain⟨y,h1,h2⟩:=qc hx
    cases h2
    obtain⟨v,g1,g2⟩:=h.get h1
    exact⟨v,by rw [NF,g1];rfl,g2⟩
  · obtain⟨x,_,z⟩:=qc hx;cases z
  · obtain⟨x,_,z⟩:=qc hx;cases z
end
section
variable{X:Cx}{K:MS}{C:xM}{fs:XA}{a:MU}{es:List MU}{pos:Pos}{σ:L2.St}{H:Hp}
def o6(n:Nat)(m:FM)(fs:XA):XE:=fun x=>(fs x).bind fun p=>(m (p.1.map .d)).bind fun z=>if p.1.length=n∧rj z.1=true then(gM z.1).map fun d=>(d,p.2) else none
theorem wC{n:Nat}{m:FM}{Q:VK}{E:XK}(h:hZ K C (o6 n m fs) σ H Q):qr (di K n m) [] E (AR K C fs) σ H Q:=by
  obtain⟨F,x,fp,z,x',R,hf,q⟩:=h
  unfold o6 at hf
  obtain⟨⟨ds,x1⟩,h1,hf⟩:=MJ hf
  obtain⟨⟨r,as'⟩,h2,hf⟩:=MJ hf
  split at hf
  case isFalse=>cases hf
  case isTrue hc=>
  obtain⟨d,h3,hf⟩:=ML hf
  cases hf
  refine⟨F,x,fp,ds,_,R,h1,fun F1 H1 vs fp1 X1 R1 A1=>?_⟩
  show di K n m (vs++[]) H1 Q E
  rw [OC]
  have hn:noS r:=by
    have:=hc.2
    cases r with
    | s i=>cases this
    | _=>trivial
  refine⟨by rw [←A1.len];exact hc.1,F1,ds.map .d,r,as',G' R1.rel.sm A1,fun i xss z=>(by obtain⟨x,_,z⟩:=qc z;cases z),h2,hn,fun F' H' v X3 R3 A3=>?_⟩
  have stay:∀a u,H1 a=some u→H' a=some u:=fun a u hu=>X3.tmp a u hu kN
  obtain⟨Y,R4⟩:=R1.beside X3.sf R3.sm X3.dom X3.lst stay fun a g1 ⟨u,g2,g3⟩=>by
    by_cases k:CQ u=true
    · exact X3.fd a ⟨u,k⟩ g1 g2 kN
    · rcases g3 with g3 | g3
      · cases u with
        | lst vs=>exact X3.fr a vs g1 g2 kN
        | ins c d fs=>exact absurd rfl k
        | _=>cases g3
      · exact absurd g3 k
  have ow:∀a,bw σ x1.1 H' a→H1 a≠none:=fun a z=>by
    rcases Y.own a (.inl z) with (w | w) | w
    · exact R1.rel.ownH a w
    · exact R1.hn a w
    · intro _
      exact R4.own a |> fun _=>by
        obtain⟨i,hi⟩:=z
        have:=(R1.rel.keep X3.sf R3.sm (fun a ⟨i,h⟩=>by
          obtain⟨c1,vs,c2⟩:=R1.rel.fpAt h
          exact X3.fr a vs c1 c2 kN) fun a o _ h=>stay a o h).2 a
        exact R1.rel.ownH a (this.mp ⟨i,hi⟩) w
  obtain⟨F4,Y4,R5,D⟩:=aX.toD Y R4 (fun _ z=>z) R1.hn (A3.noS hn ow) h3
  exact q F4 H' v _ (X1.trans Y4) R5 D
theorem EU{x:Str}{st:Na}{f:xM}{fd:Nj}{ps:List Str}{k n:Nat}{m:FM}{p:Pos}(h:dm X.K X.mg x st f fd ps)(G:aA X.prog X.w X.K X.mg X.base bY k f fd ps (di K n m))(hr:bI k X.A)(ha:PA X (a::es) (AR K C fs))
    (hg:Gl X x)(hdb:(x==("__debug__":Str))=false)(he:Nf (a::es) X.env=(false,Nh a X.env)::Nf es X.env)(hpl:(Nr pos (Nf es X.env)).any (·.1)=false):
    PE X (.Call (.Name x p) (a::es) [] pos) (hZ K C (o6 n m fs)):=(EF h G hr ha hg hdb he hpl).mono fun _ _ _ h=>wC h
end
abbrev Ar:=Lc ⊕ MT
abbrev XR:=EX→Option (List Ar × EX)
def jT(K:MS)(F:Hp)(σ:L2.St):List Ar→List V→Prop
  | [],vs=>vs=[]
  | .inl c::r,vs=>∃v ws,vs=v::ws∧lx K F σ c v∧jT K F σ r ws
  | .inr d::r,vs=>∃v ws,vs=v::ws∧DA K F d v∧jT K F σ r ws
section
variable{K:MS}{C:xM}{F H F' H':Hp}{σ:L2.St}{e:En}{ob ob' oc:hX}{fp fp':Lc→List xM}
theorem jT.len:∀{rs:List Ar} {vs:List V},jT K F σ rs vs→rs.length=vs.length
  | [],vs,h=>by rw [show vs=[] from h];rfl
  | .inl c::r,_,⟨v,ws,e,h1,h2⟩=>by rw [e];simp [jT.len h2]
  | .inr d::r,_,⟨v,ws,e,h1,h2⟩=>by rw [e];simp [jT.len h2]
theorem jT.d:∀{rs:List Ar} {vs:List V} {k:Nat} {d:MT},jT K F σ rs vs→rs[k]?=some (.inr d)→∃v,vs[k]?=some v∧DA K F d v
  | [],_,k,d,_,h=>by simp at h
  | .inl c::r,_,k,d,⟨v,ws,e,h1,h2⟩,h=>by
    subst e
    cases k with
    | zero=>simp at h
    | succ k=>simpa using jT.d h2 (by simpa using h)
  | .inr d'::r,_,k,d,⟨v,ws,e,h1,h2⟩,h=>by
    subst e
    cases k with
    | zero=>simp at h;subst h;exact⟨v,rfl,h1⟩
    | succ k=>simpa using jT.d h2 (by simpa using h)
theorem jT.c:∀{rs:List Ar} {vs:List V} {k:Nat} {c:Lc},jT K F σ rs vs→rs[k]?=some (.inl c)→∃v,vs[k]?=some v∧lx K F σ c v
  | [],_,k,d,_,h=>by simp at h
  | .inl c'::r,_,k,c,⟨v,ws,e,h1,h2⟩,h=>by
    subst e
    cases k with
    | zero=>simp at h;subst h;exact⟨v,rfl,h1⟩
    | succ k=>simpa using jT.c h2 (by simpa using h)
  | .inr d'::r,_,k,c,⟨v,ws,e,h1,h2⟩,h=>by
    subst e
    cases k with
    | zero=>simp at h
    | succ k=>simpa using jT.c h2 (by simpa using h)
end
def pv(rs:List Ar):En:=rs.map fun r=>match r with
  | .inl _=>none
  | .inr d=>some (.d d)
def oj(ob:hX):Nat→List Ar→Option hX
  | _,[]=>some []
  | k,.inl c::r=>(ob.lookup c).bind fun o=>(oj ob (k+1) r).map ((Lc.s k,o)::·)
  | k,.inr _::r=>oj ob (k+1) r
def jL(oc:hX):Nat→List Ar→hX→Option hX
  | _,[],ob=>some ob
  | k,.inl c::r,ob=>(oc.lookup (.s k)).bind fun o=>jL oc (k+1) r (lR c o ob)
  | k,.inr _::r,ob=>jL oc (k+1) r ob
def locs:List Ar→List Lc
  | []=>[]
  | .inl c::r=>c::locs r
  | .inr _::r=>locs r
theorem gS{c:Lc}:∀{rs:List Ar},c∈locs rs↔ ∃k:Nat,rs[k]?=some (Sum.inl c)
  | []=>by simp [locs]
  | .inl d::r=>by
    simp only [locs,Oz,gS (rs:=r)]
    constructor
    · rintro(rfl | ⟨k,h⟩)
      · exact⟨0,rfl⟩
      · exact⟨k+1,by simpa using h⟩
    · rintro⟨k,h⟩
      cases k with
      | zero=>simp at h;exact .inl h.symm
      | succ k=>exact .inr ⟨k,by simpa using h⟩
  | .inr d::r=>by
    simp only [locs,gS (rs:=r)]
    constructor
    · rintro⟨k,h⟩
      exact⟨k+1,by simpa using h⟩
    · rintro⟨k,h⟩
      cases k with
      | zero=>simp at h
      | succ k=>exact⟨k,by simpa using h⟩
theorem jD{c:Lc}:∀{rs:List Ar} {k j:Nat},(locs rs).Nodup→rs[k]?=some (.inl c)→rs[j]?=some (.inl c)→k=j
  | [],k,j,_,h,_=>by simp at h
  | .inl d::r,k,j,hn,h1,h2=>by
    simp only [locs,OZ] at hn
    cases k with
    | zero=>
      simp at h1;subst h1
      cases j with
      | zero=>rfl
      | succ j=>exact absurd (gS.mpr ⟨j,by simpa using h2⟩) hn.1
    | succ k=>
      cases j with
      | zero=>simp at h2;subst h2;exact absurd (gS.mpr ⟨k,by simpa using h1⟩) hn.1
      | succ j=>exact congrArg (· +1) (jD hn.2 (by simpa using h1) (by simpa using h2))
  | .inr d::r,k,j,hn,h1,h2=>by
    cases k with
    | zero=>simp at h1
    | succ k=>
      cases j with
      | zero=>simp at h2
      | succ j=>exact congrArg (· +1) (jD (rs:=r) hn (by simpa using h1) (by simpa using h2))
theorem gW{ob:hX}{p:Lc × Ob}:∀{rs:List Ar} {k:Nat} {oc:hX},oj ob k rs=some oc→p∈oc→∃j c,p.1=.s (k+j)∧rs[j]?=some (.inl c)∧ob.lookup c=some p.2
  | [],k,oc,h,hp=>by cases h;cases hp
  | .inl c::r,k,oc,h,hp=>by
    obtain⟨o,h1,h⟩:=MJ h
    obtain⟨oc',h2,rfl⟩:=ML h
    rcases MQ hp with rfl | hp
    · exact⟨0,c,rfl,rfl,h1⟩
    · obtain⟨j,d,g1,g2,g3⟩:=gW h2 hp
      exact⟨j+1,d,by rw [g1];congr 1;lia,by simpa using g2,g3⟩
  | .inr d::r,k,oc,h,hp=>by
    obtain⟨j,d,g1,g2,g3⟩:=gW (rs:=r) (k:=k+1) h hp
    exact⟨j+1,d,by rw [g1];congr 1;lia,by simpa using g2,g3⟩
theorem ol{ob:hX}:∀{rs:List Ar} {k j:Nat} {oc:hX} {c:Lc},oj ob k rs=some oc→rs[j]?=some (.inl c)→∃o,ob.lookup c=some o∧(Lc.s (k+j),o)∈oc
  | [],k,j,oc,c,h,hj=>by simp at hj
  | .inl d::r,k,j,oc,c,h,hj=>by
    obtain⟨o,h1,h⟩:=MJ h
    obtain⟨oc',h2,rfl⟩:=ML h
    cases j with
    | zero=>simp at hj;subst hj;exact⟨o,h1,OL⟩
    | succ j=>
      obtain⟨o',g1,g2⟩:=ol (j:=j) h2 (by simpa using hj)
      refine⟨o',g1,Om _ ?_⟩
      rw [show k+(j+1)=k+1+j by lia];exact g2
  | .inr d::r,k,j,oc,c,h,hj=>by
    cases j with
    | zero=>simp at hj
    | succ j=>
      obtain⟨o',g1,g2⟩:=ol (rs:=r) (k:=k+1) (j:=j) h (by simpa using hj)
      refine⟨o',g1,?_⟩
      rw [show k+(j+1)=k+1+j by lia];exact g2
theorem jw{oc:hX}{p:Lc × Ob}:∀{rs:List Ar} {k:Nat} {ob ob':hX},jL oc k rs ob=some ob'→p∈ob'→∃q∈ob,p.1=q.1∧((p.1∉locs rs∧p.2=q.2)∨∃j,rs[j]?=some (.inl p.1)∧oc.lookup (.s (k+j))=some p.2)
  | [],k,ob,ob',h,hp=>by cases h;exact⟨p,hp,rfl,.inl ⟨by simp [locs],rfl⟩⟩
  | .inl c::r,k,ob,ob',h,hp=>by
    obtain⟨o,h1,h⟩:=MJ h
    obtain⟨q,g1,g2,g3⟩:=jw h hp
    obtain⟨q',d1,d2,d3⟩:=jk.mp g1
    refine⟨q',d1,g2.trans d2,?_⟩
    rcases g3 with ⟨g3,g4⟩ | ⟨j,g3,g4⟩
    · by_cases z:q'.1=c
      · rw [if_pos z] at d3
        refine .inr ⟨0,?_,?_⟩
        · rw [g2,d2,z];rfl
        · rw [g4,d3];exact h1
      · rw [if_neg z] at d3
        refine .inl ⟨?_,g4.trans d3⟩
        simp only [locs,Oz]
        rintro(w | w)
        · exact z (by rw [←d2,←g2];exact w)
        · exact g3 w
    · exact .inr ⟨j+1,by simpa using g3,by rw [show k+(j+1)=k+1+j by lia];exact g4⟩
  | .inr d::r,k,ob,ob',h,hp=>by
    obtain⟨q,g1,g2,g3⟩:=jw (rs:=r) (k:=k+1) h hp
    refine⟨q,g1,g2,?_⟩
    rcases g3 with ⟨g3,g4⟩ | ⟨j,g3,g4⟩
    · exact .inl ⟨by simpa [locs] using g3,g4⟩
    · exact .inr ⟨j+1,by simpa using g3,by rw [show k+(j+1)=k+1+j by lia];exact g4⟩
abbrev MX:=EX→Option (MT × hX)
def wW(e:En):Bool:=e.all fun s=>match s with
  | some (.l _)=>false
  | some (.n _)=>false
  | _=>true
theorem ek{σ:L2.St}{H:Hp}{e:En}(h:wW e=true){a:xM}:¬bw σ e H a:=by
  rintro⟨i,⟨xs,z,_⟩ | ⟨xss,_,_,z,_⟩⟩
  · have:=NQ.mp h _ (MR z)
    cases this
  · have:=NQ.mp h _ (MR z)
    cases this
def my(K:MS)(C:xM)(n:Nat)(m:MX):Sp:=fun vs H Q _=>vs.length=n∧∃F x fp r oc,aX K C F H (vs.map some) x.1 x.2 fp∧wW x.1=true∧m x=some (r,oc)∧
  ∀F' H' v fp',bE [] (vs.map some) F H x.1 (Fo x.2 fp) (vs.map some) F' H' x.1 (Fo oc fp')→aX K C F' H' (vs.map some) x.1 oc fp'→DA K F' r v→Q v H'
def Av(K:MS)(C:xM)(f:XR):TA:=fun σ H Q=>∃F x fp rs x',aX K C F H σ x.1 x.2 fp∧f x=some (rs,x')∧∀F' H' vs fp',bE [] σ F H x.1 (Fo x.2 fp) σ F' H' x'.1 (Fo x'.2 fp')→aX K C F' H' σ x'.1 x'.2 fp'→jT K F' σ rs vs→Q vs H'
def bW(n:Nat)(m:MX)(fs:XR):XE:=fun x=>(fs x).bind fun p=>(oj p.2.2 0 p.1).bind fun oc=>(m (pv p.1,oc)).bind fun z=>(jL z.2 0 p.1 p.2.2).bind fun ob'=>if p.1.length=n∧(locs p.1).Nodup then some (z.1,(p.2.1,ob')) else none
section
variable{K:MS}{C:xM}{σ:L2.St}{H:Hp}{fs:XR}
theorem io{rs:List Ar}{k:Nat}{s:Option Sv}(h:(pv rs)[k]?=some s):(∃c,rs[k]?=some (.inl c)∧s=none)∨∃d,rs[k]?=some (.inr d)∧s=some (.d d):=by
  unfold pv at h
  rw [NF] at h
  cases q:rs[k]? with
  | none=>rw [q] at h;cases h
  | some r=>
    rw [q] at h
    cases r with
    | inl c=>cases h;exact .inl ⟨c,rfl,rfl⟩
    | inr d=>cases h;exact .inr ⟨d,rfl,rfl⟩
theorem et(rs:List Ar):wW (pv rs)=true:=by
  refine NQ.mpr fun s hs=>?_
  obtain⟨k,hk⟩:=List.getElem?_of_mem hs
  rcases io hk with ⟨c,_,rfl⟩ | ⟨d,_,rfl⟩<;>rfl
theorem qu{n:Nat}{m:MX}{Q:VK}{E:XK}(h:hZ K C (bW n m fs) σ H Q):qr (my K C n m) [] E (Av K C fs) σ H Q:=by
  obtain⟨F,x,fp,z,x',R,hf,q⟩:=h
  unfold bW at hf
  obtain⟨⟨rs,x1⟩,h1,hf⟩:=MJ hf
  obtain⟨oc,h2,hf⟩:=MJ hf
  obtain⟨⟨r,oc'⟩,h3,hf⟩:=MJ hf
  obtain⟨ob',h4,hf⟩:=MJ hf
  dsimp only at hf
  split at hf
  case isFalse=>cases hf
  case isTrue hc=>
  cases hf
  obtain⟨hlen,hnd⟩:=hc
  refine⟨F,x,fp,rs,x1,R,h1,fun F1 H1 vs fp1 X1 R1 A1=>?_⟩
  show my K C n m (vs++[]) H1 Q E
  rw [OC]
  dsimp only at h2 h3 h4 hlen hnd
  let fc:Lc→List xM:=fun d=>match d with
    | .s k=>match rs[k]? with
      | some (.inl c)=>fp1 c
      | _=>[]
    | _=>[]
  have fcs:∀(k:Nat) (c:Lc),rs[k]?=some (Sum.inl c)→fc (.s k)=fp1 c:=fun k c hk=>by show(match rs[k]? with | some (.inl c)=>fp1 c | _=>[])=_;rw [hk]
  have lk:∀{k:Nat} {c:Lc},rs[k]?=some (Sum.inl c)→∃o,(c,o)∈x1.2∧(Lc.s k,o)∈oc:=fun{k c} hk=>by
    obtain⟨o,g1,g2⟩:=ol h2 hk
    exact⟨o,cP g1,by simpa using g2⟩
  have foc:∀a,Fo oc fc a↔ ∃(k:Nat) (c:Lc),rs[k]?=some (Sum.inl c)∧a∈fp1 c:=fun a=>by
    constructor
    · rintro⟨p,hp,ha⟩
      obtain⟨j,c,g1,g2,g3⟩:=gW h2 hp
      rw [g1,PK,fcs j c g2] at ha
      exact⟨j,c,g2,ha⟩
    · rintro⟨k,c,hk,ha⟩
      obtain⟨o,g1,g2⟩:=lk hk
      exact⟨_,g2,by rw [fcs k c hk];exact ha⟩
  have Rc:aX K C F1 H1 (vs.map some) (pv rs) oc fc:=by
    refine⟨⟨R1.rel.sm,by unfold pv;simp [A1.len],fun i y hy=>?_,fun i ys hy=>?_,fun i ys hy=>?_,fun i j a hi _=>absurd ⟨i,hi⟩ (ek (et rs))⟩,fun p hp=>?_,fun p hp p' hp' hne a ha=>?_,fun a _=>ek (et rs)⟩
    · rcases io hy with ⟨_,_,w⟩ | ⟨d,hk,w⟩
      · cases w
      · cases w
        obtain⟨v,g1,g2⟩:=A1.d hk
        exact⟨v,by rw [NF,g1];rfl,g2⟩
    · rcases io hy with ⟨_,_,w⟩ | ⟨_,_,w⟩<;>cases w
    · rcases io hy with ⟨_,_,w⟩ | ⟨_,_,w⟩<;>cases w
    · obtain⟨j,c,g1,g2,g3⟩:=gW h2 hp
      rw [PK] at g1
      rw [g1]
      refine⟨by show(pv rs)[j]?=_;unfold pv;rw [NF,g2];rfl,?_⟩
      obtain⟨v,c1,c2⟩:=A1.c g2
      obtain⟨_,v',d1,d2⟩:=R1.obs _ (cP g3)
      refine⟨v,by show(vs.map some)[j]?=_;rw [NF,c1];rfl,?_⟩
      rw [fcs j c g2]
      have:v=v':=c2.uniq d1
      rw [this];exact d2
    · obtain⟨j,c,g1,g2,g3⟩:=gW h2 hp
      obtain⟨j',c',g1',g2',g3'⟩:=gW h2 hp'
      rw [PK] at g1 g1'
      rw [g1,fcs j c g2] at ha
      rw [g1',fcs j' c' g2']
      refine R1.dis _ (cP g3) _ (cP g3') (fun w=>hne ?_) a ha
      dsimp only at w
      subst w
      rw [g1,g1',jD hnd g2 g2']
  refine⟨by rw [←A1.len];exact hlen,F1,(pv rs,oc),fc,z,oc',Rc,et rs,h3,fun F' H' v fq X3 R3 A3=>?_⟩
  have nO:∀a,¬bw (vs.map some) (pv rs) H1 a:=fun a=>ek (et rs)
  let T:Lc→Prop:=fun c=>c∈locs rs
  have Tk:∀c,T c→∃k:Nat,rs[k]?=some (Sum.inl c):=fun c h=>gS.mp h
  have kT:∀{k:Nat} {c:Lc},rs[k]?=some (Sum.inl c)→T c:=fun h=>gS.mpr ⟨_,h⟩
  classical
  let fn:Lc→List xM:=fun c=>if h:T c then(if (∃o,(Lc.s (Tk c h).choose,o)∈oc') then fq (.s (Tk c h).choose) else []) else fp1 c
  have fnk:∀(k:Nat) (c:Lc),rs[k]?=some (Sum.inl c)→(∃o,(Lc.s k,o)∈oc')→fn c=fq (.s k):=fun k c hk ho=>by
    have hT:=kT hk
    have:(Tk c hT).choose=k:=jD hnd (Tk c hT).choose_spec hk
    show(if h:T c then _ else _)=_
    rw [dif_pos hT,this,if_pos ho]
  have fnm:∀c,T c→∀a∈fn c,∃k:Nat,rs[k]?=some (Sum.inl c)∧(∃o,(Lc.s k,o)∈oc')∧a∈fq (.s k):=fun c hT a ha=>by
    have:fn c=if (∃o,(Lc.s (Tk c hT).choose,o)∈oc') then fq (.s (Tk c hT).choose) else []:=dif_pos hT
    rw [this] at ha
    split at ha
    · rename_i ho;exact⟨_,(Tk c hT).choose_spec,ho,ha⟩
    · cases ha
  have toS:∀a,(∀c,T c→a∉fp1 c)→¬Fo oc fc a:=fun a h z=>by
    obtain⟨k,c,g1,g2⟩:=(foc a).mp z
    exact h c (kT g1) g2
  obtain⟨Y,R4⟩:=R1.putM (ob':=ob') (fp':=fn) (F':=F') (H':=H') T (fun c hT=>by
      obtain⟨k,hk⟩:=Tk c hT
      obtain⟨o,g1,_⟩:=lk hk
      exact⟨o,g1⟩) (fun p hp=>by
      obtain⟨q',g1,g2,g3⟩:=jw h4 hp
      refine⟨q',g1,g2,fun nT=>?_⟩
      rcases g3 with ⟨_,g3⟩ | ⟨j,g3,_⟩
      · exact g3
      · exact absurd (kT g3) (by rw [g2];exact nT)) (fun c nT=>dif_neg nT) X3.sf R3.rel.sm X3.dom X3.lst (fun a u hu hn=>X3.tmp a u hu (nO a) (toS a hn))
    (fun a g1 ⟨u,g2,g3⟩ hn=>by
      by_cases k:CQ u=true
      · exact X3.fd a ⟨u,k⟩ g1 g2 (nO a) (toS a hn)
      · rcases g3 with g3 | g3
        · cases u with
          | lst us=>exact X3.fr a us g1 g2 (nO a) (toS a hn)
          | ins c d fs=>exact absurd rfl k
          | _=>cases g3
        · exact absurd g3 k)
    (fun c hT a ha=>by
      obtain⟨k,hk,⟨o,ho⟩,ha⟩:=fnm c hT a ha
      rcases X3.own a (.inr ⟨_,ho,ha⟩) with (w | w) | w
      · exact absurd w (nO a)
      · obtain⟨k',c',g1,g2⟩:=(foc a).mp w
        exact .inl ⟨c',kT g1,g2⟩
      · exact .inr w)
    (fun c d hT hT' hne a ha hb=>by
      obtain⟨k,hk,⟨o,ho⟩,ha⟩:=fnm c hT a ha
      obtain⟨j,hj,⟨o',ho'⟩,hb⟩:=fnm d hT' a hb
      refine R3.dis _ ho _ ho' (fun w=>hne ?_) a ha hb
      have:k=j:=Lc.s.inj w
      subst this
      rw [hk] at hj
      exact Sum.inl.inj (Og hj))
    (fun p hp hT w hw=>by
      obtain⟨q',g1,g2,g3⟩:=jw h4 hp
      rcases g3 with ⟨g3,_⟩ | ⟨j,g3,g4⟩
      · exact absurd hT g3
      · rw [PK] at g4
        have hm:=cP g4
        rw [fnk j _ g3 ⟨_,hm⟩]
        obtain⟨_,v',d1,d2⟩:=R3.obs _ hm
        have d1:(vs.map some)[j]?=some (some v'):=d1
        obtain⟨v2,c1,c2⟩:=A1.c g3
        rw [NF,c1] at d1
        cases d1
        have:=c2.uniq hw
        rw [←this];exact d2)
  exact q F' H' v fn (X1.trans Y) R4 A3
end
section
variable{X:Cx}{K:MS}{C:xM}{fa:XE}{fs:XR}{a:MU}{es:List MU}{pos:Pos}
def eP:XR:=fun x=>some ([],x)
def dJ(fa:XE)(fs:XR):XR:=fun x=>(fa x).bind fun p=>(fs p.2).map fun q=>(.inr p.1::q.1,q.2)
theorem k7:PA X [] (Av K C eP):=fP.mono fun σ H Q h=>by
  obtain⟨F,e,fp,r,e',R,hf,q⟩:=h
  cases hf
  exact q F H [] fp bE.refl R rfl
theorem oE(ha:PE X a (hZ K C fa))(hr:PA X es (Av K C fs))(h:Pc a=false):PA X (a::es) (Av K C (dJ fa fs)):=(tJ ha hr h).mono fun σ H Q h=>by
  obtain⟨F,e,fp,z,e2,R,hf,q⟩:=h
  unfold dJ at hf
  obtain⟨⟨x,e1⟩,h1,hf⟩:=MJ hf
  obtain⟨⟨xs,e2'⟩,h2,hf⟩:=ML hf
  cases hf
  refine⟨F,e,fp,x,e1,R,h1,fun F1 H1 v fp1 X1 R1 A1=>⟨F1,e1,fp1,xs,_,R1,h2,fun F2 H2 vs fp2 X2 R2 A2=>?_⟩⟩
  exact q F2 H2 (v::vs) fp2 (X1.trans X2) R2 ⟨v,vs,rfl,A1.mono X2.sf,A2⟩
theorem vU{x:Str}{st:Na}{f:xM}{fd:Nj}{ps:List Str}{k n:Nat}{m:MX}{p:Pos}(h:dm X.K X.mg x st f fd ps)(G:aA X.prog X.w X.K X.mg X.base bY k f fd ps (my K C n m))(hr:bI k X.A)(ha:PA X (a::es) (Av K C fs))
    (hg:Gl X x)(hdb:(x==("__debug__":Str))=false)(he:Nf (a::es) X.env=(false,Nh a X.env)::Nf es X.env)(hpl:(Nr pos (Nf es X.env)).any (·.1)=false):
    PE X (.Call (.Name x p) (a::es) [] pos) (hZ K C (bW n m fs)):=(EF h G hr ha hg hdb he hpl).mono fun _ _ _ h=>qu h
end
def dA(n k:Nat)(W:List Nat)(f:XS):MX:=fun x=>if x.1.length=n∧(x.2.all fun p=>decide (p.1.slot < n))=true then(f (x.1++Nk k none,x.2)).bind fun fl=>match fl with
    | .rt r y=>if jO W (y.2.filter fun p=>decide (p.1.slot < n))=true∧okO (y.2.filter fun p=>decide (p.1.slot < n)) x.1=true then some (r,y.2.filter fun p=>decide (p.1.slot < n)) else none
    | .nx y=>if jO W (y.2.filter fun p=>decide (p.1.slot < n))=true∧okO (y.2.filter fun p=>decide (p.1.slot < n)) x.1=true then some (.none,y.2.filter fun p=>decide (p.1.slot < n)) else none
    | _=>none
  else none
section
variable{P:MZ}{w:MV}{K:MS}{C:xM}{mg:Str→Option Kg}{base:MY}
theorem G_{F F' H H':Hp}{σ:L2.St}{e:En}(R:aY K F H σ e)(h:wW e=true)(s:ao F F')(sm:ao F' H'):aY K F' H' σ e:=by
  have no:∀{i:Nat} {s:Sv},e[i]?=some (some s)→(∃x,s=.d x):=fun{i s} z=>by
    have:=NQ.mp h _ (MR z)
    cases s with
    | d x=>exact⟨x,rfl⟩
    | l x=>cases this
    | n x=>cases this
  refine⟨sm,R.len,fun i x hx=>let ⟨v,h1,h2⟩:=R.dat i x hx;⟨v,h1,h2.mono s⟩,fun i xs hx=>?_,fun i xs hx=>?_,fun i j a hi _=>absurd ⟨i,hi⟩ (ek h)⟩
  · obtain⟨x,z⟩:=no hx;cases z
  · obtain⟨x,z⟩:=no hx;cases z
theorem rS.okY{x qual:Str}{st:Na}{f:xM}{fd:Nj}{N ps:List Str}{k n k0:Nat}{W:List Nat}{fb:XS}(hF:rS K x qual st f fd)(S:au N ps (ag st))(hn:ps.length=n)(hN:N.length=n+k0)
    (hb:∀(cdv:Kg) (A:Nb) (outer:List Env) (s:MP) (H:Hp) (E:XK),bI k (A.deeper (envOfC qual (ag st) s.heap.objs.size f cdv))→i0 (sy bY P w K mg base N qual (ag st) f cdv A outer s H E).nox (cc st) (pX K C fb W)):
    aA P w K mg base bY (k+1) f fd ps (my K C n (dA n k0 W fb)):=by
  refine hF.ok S (fun vs H Q E q=>?_) fun cdv A outer s H vs Q E hr hsp=>⟨_,hb cdv A outer s H E hr,?_⟩
  · rw [hn];exact q.1
  · obtain⟨hl,F,x,fp,r,oc,R,hd,hm,q⟩:=hsp
    unfold dA at hm
    split at hm
    case isFalse=>cases hm
    case isTrue hc=>
    obtain⟨la,lo⟩:=hc
    obtain⟨fl,h1,hm⟩:=MJ hm
    have hst:gw N vs=vs.map some++Nk k0 none:=by unfold gw;rw [hN,hl];congr 2;lia
    rw [hst]
    have lt:∀p∈x.2,p.1.slot < n:=fun p hp=>by simpa using NQ.mp lo p hp
    have gv:∀j,j < n→(vs.map some++Nk k0 none)[j]?=(vs.map some)[j]?:=fun j hj=>OH (by rw [NC,hl];exact hj)
    have ge:∀j,j < n→(x.1++Nk k0 none)[j]?=x.1[j]?:=fun j hj=>OH (by rw [la];exact hj)
    have lcp:∀{F:Hp} {σ σ':L2.St} {c:Lc} {v:V},lx K F σ c v→σ'[c.slot]?=σ[c.slot]?→lx K F σ' c v:=fun h e=>h.mono (ao.refl _) e
    have Rp:aX K C F H (vs.map some++Nk k0 none) (x.1++Nk k0 none) x.2 fp:=⟨R.rel.pad,fun p hp=>by
      obtain⟨c1,v,c2,c3⟩:=R.obs p hp
      exact⟨by rw [ge _ (lt p hp)];exact c1,v,lcp c2 (gv _ (lt p hp)),c3⟩,R.dis,fun a ha z=>R.own a ha (eT.mp z)⟩
    have key:∀{y:EX},jO W (y.2.filter fun p=>decide (p.1.slot < n))=true∧okO (y.2.filter fun p=>decide (p.1.slot < n)) x.1=true→∀F' H' σ' fp',bE W (vs.map some++Nk k0 none) F H (x.1++Nk k0 none) (Fo x.2 fp) σ' F' H' y.1 (Fo y.2 fp')→aX K C F' H' σ' y.1 y.2 fp'→
        bE [] (vs.map some) F H x.1 (Fo x.2 fp) (vs.map some) F' H' x.1 (Fo (y.2.filter fun p=>decide (p.1.slot < n)) fp')∧aX K C F' H' (vs.map some) x.1 (y.2.filter fun p=>decide (p.1.slot < n)) fp':=by
      intro y hk F' H' σ' fp' X' R'
      have sub:∀a,Fo (y.2.filter fun p=>decide (p.1.slot < n)) fp' a→Fo y.2 fp' a:=fun a ⟨p,hp,ha⟩=>⟨p,(Ph.mp hp).1,ha⟩
      refine⟨⟨X'.sf,X'.dom,fun a us h1 h2 hn=>X'.fr a us h1 h2 fun z=>hn (eT.mp z),X'.lst,fun a o ha hn=>X'.tmp a o ha fun z=>hn (eT.mp z),fun a z=>?_,fun _ _=>rfl,fun a m h1 h2 hn=>X'.fd a m h1 h2 fun z=>hn (eT.mp z)⟩,
        ⟨G_ R.rel hd X'.sf R'.rel.sm,fun p hp=>?_,fun p hp q hq=>R'.dis p (Ph.mp hp).1 q (Ph.mp hq).1,fun a ha=>ek hd⟩⟩
      · rcases z with z | z
        · exact absurd z (ek hd)
        · exact(X'.own a (.inr (sub a z))).imp_left fun w=>w.imp_left eT.mp
      · have hp':=Ph.mp hp
        have hs:p.1.slot < n:=by simpa using hp'.2
        obtain⟨_,v,c2,c3⟩:=R'.obs p hp'.1
        exact⟨y9 hk.2 hp,v,lcp c2 (by rw [X'.wr _ (oo hk.1 p hp),gv _ hs]),c3⟩
    refine⟨F,(x.1++Nk k0 none,x.2),fp,fl,Rp,h1,?_⟩
    cases fl with
    | bk e'=>cases hm
    | ct e'=>cases hm
    | nx y=>
      dsimp only at hm
      split at hm
      case isFalse=>cases hm
      case isTrue hk=>
      cases hm
      intro F' H' σ' fp' X' R'
      obtain⟨X2,R2⟩:=key hk F' H' σ' fp' X' R'
      exact q F' H' .non fp' X2 R2 ((ee (K:=K) (F:=F')).mpr rfl)
    | rt r0 y=>
      dsimp only at hm
      split at hm
      case isFalse=>cases hm
      case isTrue hk=>
      cases hm
      intro F' H' σ' v fp' X' R' A'
      obtain⟨X2,R2⟩:=key hk F' H' σ' fp' X' R'
      exact q F' H' v fp' X2 R2 A'
end
section
variable{X:Cx}{K:MS}{C:xM}{W W1 W2:List Nat}{f:XS}{ft:XT}{pos:Pos}
noncomputable def sI(W1:List Nat)(g:FG)(f:XS):List MT→EX→Option HD
  | [],x=>some (.nx x)
  | d::r,x=>if jO W1 x.2=true then(g d x.1).bind fun e1=>if okO x.2 e1=true then(f (e1,x.2)).bind fun fl=>match fl with
      | .nx x2=>sI W1 g f r x2
      | .ct x2=>sI W1 g f r x2
      | .bk x2=>some (.nx x2)
      | .rt v x2=>some (.rt v x2)
    else none else none
noncomputable def mj(W1:List Nat)(fi:FI)(g:FG)(f:XS):XS:=fun x=>(fi x.1).bind fun p=>if p.2.1.isEmpty=true∧okO x.2 p.2.2=true then sI W1 g f p.1 (p.2.2,x.2) else none
inductive De (K:MS) (C:xM) (F1:Hp) (P:EX→Prop) (G:L2.St→Hp→Hp→En→(xM→Prop)→Prop) (σ:L2.St) (H:Hp):Prop
  | mk {F:Hp} {x:EX} {fp:Lc→List xM} (R:aX K C F H σ x.1 x.2 fp) (sF:ao F1 F) (hf:P x) (q:G σ F H x.1 (Fo x.2 fp)):De K C F1 P G σ H
theorem v0{tg iter:MU}{body:List Na}{fi:FI}{gg:FG}(hp:PassesOwn (Ng X.prog X.w) X.A X.env X.xe)(hc:X.calm=true)(hi:PI X tg iter (fI K fi))(hg:PG X tg (fG K gg W1))(hb:i0 X body (pX K C f W2))(hs:∀x,PB iter X.env x=pure x):
    PS X (.For tg iter body [] pos) (pX K C (mj W1 fi gg f) (W1++W2)):=(zv hp hc hi hg hb hs).mono fun D σ0 H0 hh=>by
  obtain⟨F0,x0,fp0,fl,R0,hf,q0⟩:=hh
  unfold mj at hf
  obtain⟨⟨items,own,e1⟩,hI,hf⟩:=MJ hf
  dsimp only at hf
  split at hf
  case isFalse=>cases hf
  case isTrue ho=>
  obtain⟨ho,hok⟩:=ho
  have ho:=List.isEmpty_iff.mp ho
  subst ho
  refine⟨F0,x0.1,items,[],e1,R0.rel,hI,fun J F1 H1 X1 R1 kp ok=>?_⟩
  have s1:∀j,j∈W1→j∈W1++W2:=fun j h=>Of.mpr (.inl h)
  have s2:∀j,j∈W2→j∈W1++W2:=fun j h=>Of.mpr (.inr h)
  have s0:∀j,j∈([]:List Nat)→j∈W1++W2:=fun j h=>by cases h
  obtain⟨Y1,R1X⟩:=R0.pure X1 R1 hok
  have q1:l_ K C (W1++W2) σ0 F1 H1 e1 (Fo x0.2 fp0) D fl:=q0.later (W1:=[]) Y1 s0 fun j h=>h
  refine⟨fun k m σ H=>m=items.length - k∧k≤items.length∧De K C F1 (fun x=>sI W1 gg f (items.drop k) x=some fl) (fun σ F H e S=>l_ K C (W1++W2) σ F H e S D fl) σ H,
    ⟨items.length,by simp,ON _,.mk (x:=(e1,x0.2)) R1X (ao.refl _) hf q1⟩,?_⟩
  rintro k m σ H ⟨rfl,hk,⟨R,sF,hf,q⟩⟩
  rename_i F x fp
  obtain⟨go,stop,yld⟩:=ok F H sF R.rel.sm (fun p hp=>by cases hp)
  by_cases hlt:k < items.length
  · have hd:items.drop k=items[k]::items.drop (k+1):=QT hlt
    rw [hd] at hf
    unfold sI at hf
    split at hf
    case isFalse=>cases hf
    case isTrue hw=>
    obtain⟨e2,h2,hf⟩:=MJ hf
    split at hf
    case isFalse=>cases hf
    case isTrue hok2=>
    obtain⟨fl2,h3,hf⟩:=MJ hf
    refine .inr ⟨go k hlt,De K C F1 (fun x=>sI W1 gg f (items.drop (k+1)) x=some fl) (fun σ F H e S=>l_ K C (W1++W2) σ F H e S D fl),
      fun σ' H' r=>⟨items.length - (k+1),by lia,rfl,hlt,r⟩,fun y H' hy=>?_⟩
    obtain⟨F',sH,sF',sm',fz,hx⟩:=yld k items[k] y H' (Ot hlt) hy
    obtain⟨R',X'⟩:=R.rel.step sH sF' sm' fz
    obtain⟨Y2,R2X⟩:=R.pure0 X' R'
    refine⟨F',_,items[k],e2,R',hx,h2,fun σ2 x2 R2=>?_⟩
    obtain⟨Y3,R3X⟩:=R2X.next x2 (oo hw) hok2 R2
    refine⟨F',(e2,x.2),fp,fl2,R3X,h3,?_⟩
    have q2:l_ K C (W1++W2) σ2 F' H' e2 (Fo x.2 fp) D fl:=(q.later (W1:=[]) (W2:=W1++W2) Y2 s0 fun j h=>h).later Y3 s1 fun j h=>h
    cases fl2 with
    | nx x3=>exact fun F3 H3 σ3 fp3 y3 R3=>.mk R3 (sF.trans (sF'.trans y3.sf)) hf (q2.later y3 s2 fun j h=>h)
    | ct x3=>exact fun F3 H3 σ3 fp3 y3 R3=>.mk R3 (sF.trans (sF'.trans y3.sf)) hf (q2.later y3 s2 fun j h=>h)
    | bk x3=>
      cases hf
      exact fun F3 H3 σ3 fp3 y3 R3=>q2 F3 H3 σ3 fp3 (y3.mono s2) R3
    | rt r x3=>
      cases hf
      exact fun F3 H3 σ3 v fp3 y3 R3 A3=>q2 F3 H3 σ3 v fp3 (y3.mono s2) R3 A3
  · have hd:items.drop k=[]:=QU (by lia)
    rw [hd] at hf
    cases hf
    exact .inl ⟨stop k (by lia),q F H σ fp bE.refl R⟩
end
section
variable{X:Cx}{K:MS}{a b:MU}{es:List MU}{fa fb:FE}{fs:FA}{pos apos cpos p2:Pos}{lo hi:Option MU}
def G8:V→Option Int→Option Int→Hp→VK→Prop:=fun x lo hi H Q=>∃y,x=.str y∧y.length≤Nl∧Q (.str (OE y lo hi)) H
theorem oq{v:Kg}{o:Option Int}(h:IsPart v o):∃l:Option (Int × Tok),v=partValue l∧o=l.map (·.1):=by
  cases h with
  | none=>exact⟨none,rfl,rfl⟩
  | int i t=>exact⟨some (i,t),rfl,rfl⟩
theorem Aa:Ap X G8:=by
  intro pins s σ H x v vl vu lo hi sl Q I rx hs pl pu h
  obtain⟨y,rfl,hz,q⟩:=h
  obtain⟨t,rfl⟩:=rx
  obtain⟨l,rfl,rfl⟩:=oq pl
  obtain⟨u,rfl,rfl⟩:=oq pu
  refine⟨"str",_,F.slot_str_getitem.lookup,typeIs_str _ _ _,wpAny_getItem_str_slice (l:=l) (u:=u) (st:=none) hs rfl ?_⟩
  refine post_val_or_str ⟨NG (Txt.slice_le y (l.map (·.1)) (u.map (·.1))) hz,fun t' k=>⟨.str _,H,I.tok _,⟨_,rfl⟩,q⟩⟩
def pb(fa:FE)(fl fh:FO):FE:=fun e=>(fa e).bind fun p=>(fl p.2).bind fun l=>(fh l.2).bind fun h=>(b6 p.1).bind fun y=>if y.length≤1000000 then some (.d (.str (OE y l.1 h.1)),h.2) else none
theorem tM{fl fh:FO}(he:PE X a (fE K fa))(hl:PO X lo (fO K fl))(hh:PO X hi (fO K fh)):PE X (.Subscript a (.Slice lo hi none p2) pos) (fE K (pb fa fl fh)):=(ox Aa he hl hh).mono fun σ H Q h=>by
  obtain⟨F,e,z,e',R,hf,q⟩:=h
  unfold pb at hf
  obtain⟨⟨x,e1⟩,h1,hf⟩:=MJ hf
  obtain⟨⟨l,e2⟩,h2,hf⟩:=MJ hf
  obtain⟨⟨u,e3⟩,h3,hf⟩:=MJ hf
  obtain⟨y,h4,hf⟩:=MJ hf
  split at hf
  case isFalse=>cases hf
  case isTrue hz=>
  cases hf
  refine⟨F,e,x,e1,R,h1,fun F1 H1 v X1 R1 A1=>⟨F1,e1,l,e2,R1,h2,fun F2 H2 X2 R2=>⟨F2,e2,u,_,R2,h3,fun F3 H3 X3 R3=>?_⟩⟩⟩
  have sl:Nl=16777216:=NU
  exact⟨y,cQ ((A1.ext X2).ext X3) h4,by lia,q F3 H3 _ ((X1.trans X2).trans X3) R3 lQ⟩
def ix:En→Rv→Option Rv:=fun _ x=>(b6 x).bind fun y=>if y.length≤640 then(Qb y).map fun n=>.d (.int n) else none
def zN:V→Hp→VK→Prop:=fun v H Q=>∃y n,v=.str y∧y.length≤640∧Qb y=some n∧Q (.int n) H
theorem uu:cM X (.type "int") (fun xs H Q=>∃v,xs=[v]∧zN v H Q):=by
  intro pins s σ H xs us Q I r h
  obtain⟨v,rfl,y,n,rfl,h1,h2,q⟩:=h
  obtain⟨u,rfl,ru⟩:=iI r
  obtain⟨t,rfl⟩:=ru
  exact PySem.W.KIN.call_text h2 h1 ⟨.int n,H,I.tok _,⟨_,rfl⟩,q⟩
theorem A4:cJ K (fun xs H Q=>∃v,xs=[v]∧zN v H Q) (g1 ix):=ed fun σ H0 F H e x z v Q R A hg q=>by
  unfold ix at hg
  obtain⟨y,h1,hg⟩:=MJ hg
  split at hg
  case isFalse=>cases hg
  case isTrue hl=>
  obtain⟨n,h2,hg⟩:=ML hg
  cases hg
  exact⟨v,rfl,y,n,cQ A h1,hl,h2,q F H _ (cS.refl _ _ _ _) R (show DA K F (.int n) (.int n) from bO.mpr rfl)⟩
theorem vx:jU X K "int" (g1 ix):=⟨.inr ⟨_,_,uu,A4,PyProof.Rows.boot_int⟩⟩
def lE:En→Rv→Option Rv:=fun _ x=>(b6 x).bind fun y=>if y.length≤1000000 then some (.d (.int y.length)) else none
theorem uv:cM X (.builtin "len") (fun xs H Q=>∃v,xs=[v]∧∃y:Str,v=.str y∧y.length≤1000000∧Q (.int y.length) H):=by
  intro pins s σ H xs us Q I r h
  obtain⟨v,rfl,y,rfl,h1,q⟩:=h
  obtain⟨u,rfl,ru⟩:=iI r
  obtain⟨t,rfl⟩:=ru
  exact len_str (by lia) ⟨.int _,H,I.tok _,⟨_,rfl⟩,q⟩
theorem Be:cJ K (fun xs H Q=>∃v,xs=[v]∧∃y:Str,v=.str y∧y.length≤1000000∧Q (.int y.length) H) (g1 lE):=ed fun σ H0 F H e x z v Q R A hg q=>by
  unfold lE at hg
  obtain⟨y,h1,hg⟩:=MJ hg
  split at hg
  case isFalse=>cases hg
  case isTrue hl=>
  cases hg
  exact⟨v,rfl,y,cQ A h1,hl,q F H _ (cS.refl _ _ _ _) R (show DA K F (.int _) (.int _) from bO.mpr rfl)⟩
theorem AI:jU X K "len" (g1 lE):=⟨.inl ⟨_,_,uv,Be,PySem.boot_len⟩⟩
def E9:V→List V→Hp→VK→Prop:=fun x vs H Q=>∃y z:Str,x=.str y∧vs=[.str z]∧(z.length==0)=false∧y.length+2≤Nl∧∀l,H l=none→Q (.ref l) (bv H l (.lst ((OJ y z).map V.str)))
theorem mB:∀{l:List (Str × Tok)},aP ((l.map (·.1)).map V.str) (strValues l)
  | []=>.nil
  | p::r=>.cons ⟨p.2,rfl⟩ (mB (l:=r))
theorem yQ:Di X "str.split" E9:=by
  intro pins s σ H x xs v us Q I rx rs h
  obtain⟨y,z,rfl,rfl,hz,hl,q⟩:=h
  obtain⟨t,rfl⟩:=rx
  obtain⟨w,rfl,rw0⟩:=iI rs
  obtain⟨u,rfl⟩:=rw0
  have key:∀(l:List (Str × Tok)) (k:Nat),l.map (·.1)=OJ y z→EP X pins σ Q (.ref s.heap.objs.size) {s with heap:=s.heap.push {cls:=.type "list",data:=.seq (strValues l).toArray},toks:=k}:=fun l k hk=>by
    have hlen:l.length≤Nl:=by
      have h1:l.length=(OJ y z).length:=by rw [←hk,NC]
      have h2:(OJ y z).length≤y.length+2:=by
        unfold OJ
        split
        · simp
        · split
          · simp
          · have e1:=StrLaws.occ_length_le y z 0 y.length (y.length+1)
            rw [length_partsBetween];lia
      lia
    refine⟨.ref s.heap.objs.size,_,I.laid (t':=k) (o:=.lst ((OJ y z).map V.str)) (fun b ob q=>NH _ q) (Nn _) ?_,rfl,q _ (I.hok.fresh (Nn _))⟩
    refine⟨by rw [NC,←hk,NC];exact hlen,strValues l,0,by rw [←hk];exact mB,Oa _ rfl⟩
  have hn:(Builtin.Str.partsBetween y (QX y z 0 y.length (y.length+1)) z.length).length≤Nl:=by
    have e1:=StrLaws.occ_length_le y z 0 y.length (y.length+1)
    rw [length_partsBetween];lia
  cases h1:(decide (y.length < z.length) || decide (Builtin.Str.strKind y < Builtin.Str.strKind z))
  · cases hf:(QX y z 0 y.length (y.length+1)).isEmpty
    · refine Ow Qz (typeIs_str _ _ _) F.entry_str_split (F.args_str_split_2 _ _) (meets_str_split_sep y z t u h1 hz hf (by lia) hn) ?_
      show EP X pins σ Q _ {s with toks:=_,heap:=s.heap.push {cls:=.type "list",data:=.seq (strsFrom s.toks (Builtin.Str.partsBetween y (QX y z 0 y.length (y.length+1)) z.length)).toArray}}
      rw [strsFrom_eq]
      exact key (numbered s.toks _) _ ((numbered_texts _ _).trans ((if_neg (ne_true_of_eq_false h1)).trans (if_neg (ne_true_of_eq_false hf))).symm)
    · exact Ow Qz (typeIs_str _ _ _) F.entry_str_split (F.args_str_split_2 _ _) (meets_str_split_not_found y z t u h1 hz hf)
        (key [(y,t)] s.toks ((if_neg (ne_true_of_eq_false h1)).trans (if_pos hf)).symm)
  · exact Ow Qz (typeIs_str _ _ _) F.entry_str_split (F.args_str_split_2 _ _) (meets_str_split_cannot_occur y z t u h1)
      (key [(y,t)] s.toks (if_pos h1).symm)
def ji:En→Rv→Rv→Option Rv:=fun _ x y=>(b6 x).bind fun u=>(b6 y).bind fun v=>if v.length≠0∧u.length≤1000000 then some (.l ((OJ u v).map .str)) else none
theorem nj{F:Hp}:∀(ys:List Str),aN K F (ys.map .str) (ys.map V.str)
  | []=>aN.nil
  | y::ys=>.cons (ik.mpr rfl) (nj ys)
theorem B0(ha:PE X a (fE K fa))(hb:PE X b (fE K fb))(hbase:Oh a "split" X.env (Nh a X.env)=Nh a X.env)
    (hfew:((Nr cpos (Nf [b] X.env)).all (fun x=> !x.1)&&(OF cpos (OG [] X.env)).all (fun x=>x.1.isSome)&&decide (([b]:List MU).length+([]:List NV).length+(if ([]:List NV).isEmpty then 0 else 1) < 30))=true)
    (hline:(apos.endLine==cpos.line)=true)(hs:Nf [b] X.env=(false,Nh b X.env)::Nf [] X.env)(hplain:(Nr cpos (Nf [] X.env)).any (·.1)=false):
    PE X (.Call (.Attribute a "split" apos) [b] [] cpos) (fE K (ax ji fa fb)):=
  (zc QW Qz PySem.F.type_str_split yQ ha (kR hb fP hs) hbase hfew hline hs hplain).mono fun σ H Q h=>by
    obtain⟨F,e,r,e',R,hf,q⟩:=h
    unfold ax at hf
    obtain⟨⟨x,e1⟩,h1,hf⟩:=MJ hf
    obtain⟨⟨y,e2⟩,h2,hf⟩:=MJ hf
    obtain⟨z,h3,hf⟩:=ML hf
    cases hf
    unfold ji at h3
    obtain⟨u,g1,h3⟩:=MJ h3
    obtain⟨v,g2,h3⟩:=MJ h3
    split at h3
    case isFalse=>cases h3
    case isTrue hc=>
    cases h3
    refine⟨F,e,x,e1,R,h1,fun F1 H1 w X1 R1 A1=>?_⟩
    have ew:=cQ A1 g1
    refine⟨?_,F1,e1,y,_,R1,h2,fun F2 H2 w2 X2 R2 A2=>?_⟩
    · rw [ew];trivial
    have ew2:=cQ A2 g2
    have sl:Nl=16777216:=NU
    refine⟨u,v,ew,by rw [ew2],by simpa using hc.1,by lia,fun l hl=>?_⟩
    obtain⟨R3,X3,hF,no⟩:=R2.newL (vs:=(OJ u v).map V.str) hl
    exact q F2 _ _ ((X1.trans X2).trans X3) R3 ⟨l,_,rfl,X1.dom _ (X2.dom _ hl),hF,aq,nj _,no⟩
def E5:V→List V→Hp→VK→Prop:=fun x vs H Q=>∃y,x=.str y∧vs=[]∧Q (.bl (Qc y)) H
theorem Ec:Di X "str.isdecimal" E5:=by
  intro pins s σ H x xs v us Q I rx rs h
  obtain⟨y,rfl,rfl,q⟩:=h
  obtain⟨t,rfl⟩:=rx
  have:=rs.zero
  subst this
  exact PySem.SC.isdecimal ⟨.bl _,H,I,rfl,q⟩
def rh:En→Rv→Option Rv:=fun _ x=>(b6 x).map fun u=>.d (.bool (Qc u))
theorem GV(ha:PE X a (fE K fa))(hbase:Oh a "isdecimal" X.env (Nh a X.env)=Nh a X.env)(hline:(apos.endLine==cpos.line)=true):PE X (.Call (.Attribute a "isdecimal" apos) [] [] cpos) (fE K (uh rh fa)):=
  (ze QW PySem.F.slot_str_isdecimal PySem.F.type_str_isdecimal Ec ha hbase hline).mono fun σ H Q h=>by
    obtain⟨F,e,r,e',R,hf,q⟩:=h
    unfold uh at hf
    obtain⟨⟨x,e1⟩,h1,hf⟩:=MJ hf
    obtain⟨z,h3,hf⟩:=ML hf
    cases hf
    obtain⟨u,g1,rfl⟩:=ML h3
    refine⟨F,e,x,_,R,h1,fun F1 H1 w X1 R1 A1=>?_⟩
    have ew:=cQ A1 g1
    exact⟨by rw [ew];trivial,u,ew,rfl,q F1 H1 _ X1 R1 dF⟩
def rg:List MT→List MT→Option (MT × List MT):=fun xs ds=>match ds with
  | []=>some (.none,[])
  | _=>none
theorem AN:m4 K zM rg:=by
  intro F H l xs ys ds z vs us Q hF sm hl d1 d2 hg q
  unfold rg at hg
  match ds,hg,d2 with
  | [],hg,d2=>
    simp only [aN] at d2
    subst d2
    cases hg
    exact⟨l,vs,rfl,rfl,hl,q _ _ (ee.mpr rfl) aN.nil⟩
theorem BY(hK:X.K=K)(ho:PE X a (fE K fa))(hbase:Oh a "clear" X.env (Nh a X.env)=Nh a X.env)(hline:(apos.endLine==cpos.line)=true):
    PE X (.Call (.Attribute a "clear" apos) [] [] cpos) (fE K (b7 rg fa ah)):=by
  subst hK;exact zG PySem.F.slot_list_clear PySem.F.type_list_clear yO AN ho hbase hline
end
section
variable{X:Cx}{K:MS}{C:xM}{fa fb:XE}{fs:XR}{a b:MU}{es:List MU}{cf:List Na}{pos apos p p2:Pos}
def lV(i:Nat)(nm:Str)(fs:XR):XR:=fun x=>match x.2.lookup (.s i) with
  | some (.dk gs)=>if (gs.lookup nm).isNone=true then(fs x).map fun q=>(.inl (.s i)::q.1,q.2) else none
  | _=>none
theorem qy{i n:Nat}{nm:Str}{m:MX}{σ:L2.St}{H:Hp}{Q:VK}{E:XK}(h:hZ K C (bW n m (lV i nm fs)) σ H Q):Ae C nm (my K C n m) [] E (oX i) (Av K C fs) σ H Q:=by
  obtain⟨F,x,fp,rs,x',R,hf,q⟩:=(qu (E:=E) h:Av K C (lV i nm fs) σ H fun vs H1=>my K C n m (vs++[]) H1 Q E)
  unfold lV at hf
  split at hf
  case h_2=>cases hf
  case h_1 gs hl=>
  split at hf
  case isFalse=>cases hf
  case isTrue hn=>
  obtain⟨⟨rs1,x2⟩,h1,hf⟩:=ML hf
  cases hf
  obtain⟨_,v,g1,g2⟩:=R.obs _ (cP hl)
  obtain⟨ad,dx,hs,rfl,_,c1,c2,c3⟩:=g2
  refine⟨.ref ad,g1,ad,dx,hs,rfl,c2,c3.none (Option.isNone_iff_eq_none.mp hn),F,x,fp,rs1,_,R,h1,fun F2 H2 vs fp2 X2 R2 A2=>?_⟩
  exact q F2 H2 (.ref ad::vs) fp2 X2 R2 ⟨.ref ad,vs,rfl,g1,A2⟩
theorem rG{i k n:Nat}{x nm:Str}{f:xM}{fd:Nj}{ps:List Str}{m:MX}{pl:Sem Bool}(hK:X.K=K)(ho:PE X (.Name x p) (oX i))(cl:ph K C)(hm:ly K C nm f)(G:aA X.prog X.w X.K X.mg X.base bY k f fd ps (my K C n m))(hr:bI k X.A)(hb:dq X.K fd ps [])(ha:PA X (a::es) (Av K C fs))
    (hst:Nf (a::es) X.env=(false,Nh a X.env)::Nf es X.env)(hpl:(Nr pos (Nf es X.env)).any (·.1)=false)
    (ht:Nh (.Call (.Attribute (.Name x p) nm apos) (a::es) [] pos) X.env=(do
      let ov ←Nh (.Name x p) X.env
      standAt apos.atName
      let (f,first) ←holding [ov] (getMethod ov nm pl)
      callWith pos f first (Nr pos (Nf (a::es) X.env)) (OF pos (OG [] X.env)))):
    PE X (.Call (.Attribute (.Name x p) nm apos) (a::es) [] pos) (hZ K C (bW n m (lV i nm fs))):=by
  subst hK
  exact(BM ho cl hm G hr hb .nil tK ha hst hpl ht).mono fun _ _ _ h=>qy h
theorem zB{i k n:Nat}{x nm:Str}{f:xM}{fd:Nj}{ps:List Str}{m:MX}{pl:Sem Bool}(hK:X.K=K)(ho:PE X (.Name x p) (oX i))(cl:ph K C)(hm:ly K C nm f)(G:aA X.prog X.w X.K X.mg X.base bY k f fd ps (my K C n m))(hr:bI k X.A)(hb:dq X.K fd ps [])
    (ht:Nh (.Call (.Attribute (.Name x p) nm apos) [] [] pos) X.env=(do
      let ov ←Nh (.Name x p) X.env
      standAt apos.atName
      let (f,first) ←holding [ov] (getMethod ov nm pl)
      callWith pos f first (Nr pos (Nf [] X.env)) (OF pos (OG [] X.env)))):
    PE X (.Call (.Attribute (.Name x p) nm apos) [] [] pos) (hZ K C (bW n m (lV i nm eP))):=by
  subst hK
  refine(zi ho cl hm G hr hb .nil tK ht).mono fun σ H Q h=>?_
  obtain⟨v,g1,ad,dx,hs,e1,e2,e3,F,x,fp,rs,x',R,hf,q⟩:=qy (E:=E0) h
  cases hf
  exact⟨v,g1,ad,dx,hs,e1,e2,e3,q F H [] fp bE.refl R rfl⟩
theorem zC{lo hi:Option MU}{l h:Option Int}(hK:X.K=K)(he:PE X a (hZ K C fa))(hl:PO X lo (fO K fun e=>some (l,e)))(hh:PO X hi (fO K fun e=>some (h,e))):PE X (.Subscript a (.Slice lo hi none p2) pos) (hZ K C (Fy fa l h)):=by
  subst hK
  refine(ox Hc he hl hh).mono fun σ H Q hh'=>?_
  obtain⟨F,x,fp,r,x',R,hf,q⟩:=hh'
  unfold Fy at hf
  obtain⟨⟨d,x1⟩,h1,hf⟩:=MJ hf
  obtain⟨z,h2,hf⟩:=MJ hf
  obtain⟨d2,h3,hf⟩:=ML hf
  cases hf
  refine⟨F,x,fp,d,_,R,h1,fun F1 H1 v fp1 X1 R1 A1=>⟨F1,_,_,_,R1.rel,rfl,fun F2 H2 X2 R2=>⟨F2,_,_,_,R2,rfl,fun F3 H3 X3 R3=>?_⟩⟩⟩
  obtain⟨Y2,R2X⟩:=R1.pure0 X2 R2
  obtain⟨Y3,R3X⟩:=R2X.pure0 X3 R3
  have A3:bZ X.K σ H3 F3 H3 x1.1 (.d d) v:=A1.mono (X2.sf.trans X3.sf)
  unfold Gc at h2
  obtain⟨⟨k,ds⟩,g1,g2⟩:=ML h2
  obtain⟨pp,vs,rfl,B,S⟩:=cI R3 A3 g1
  cases k with
  | true=>
    have g2':Rv.l (jY ds l h)=z:=by simpa using g2
    subst g2'
    refine .inr (.inr ⟨pp,vs,rfl,S,fun b hb=>?_⟩)
    obtain⟨R4,X4,hF,no⟩:=R3.newL (vs:=mG vs l h) hb
    obtain⟨Y4,R4X⟩:=R3X.pure0 X4 R4
    obtain⟨F5,Y5,R5,D5⟩:=aX.toD (H1:=H3) Y4 R4X (fun _ z=>z) R3X.hn (show bZ X.K σ H3 F3 _ _ (.l (jY ds l h)) (.ref b) from⟨b,_,rfl,hb,hF,aq,qN B l h,no⟩) h3
    exact q F5 _ _ _ (((X1.trans Y2).trans Y3).trans Y5) R5 D5
  | false=>
    have g2':Rv.d (.tuple (jY ds l h))=z:=by simpa using g2
    subst g2'
    cases h3
    by_cases hw:HT.sIx vs.length 0 l=0∧HT.sIx vs.length vs.length h=vs.length
    · refine .inr (.inl ⟨pp,vs,rfl,S,hw,?_⟩)
      have e5:jY ds l h=ds:=by unfold jY;exact vB (by rw [B.len];exact hw)
      rw [e5] at q
      obtain⟨F4,R4,X4,hF⟩:=R3.growT (ao.refl _) S
      obtain⟨Y4,R4X⟩:=R3X.pure0 X4 R4
      exact q _ _ _ _ (((X1.trans Y2).trans Y3).trans Y4) R4X (c9.mpr ⟨pp,vs,rfl,hF,B.mono X4.sf⟩)
    · refine .inl ⟨pp,vs,rfl,S,hw,fun b hb=>?_⟩
      obtain⟨R4,X4⟩:=R3.newT (vs:=mG vs l h) hb
      obtain⟨Y4,R4X⟩:=R3X.pure0 X4 R4
      exact q _ _ _ _ (((X1.trans Y2).trans Y3).trans Y4) R4X (c9.mpr ⟨b,_,rfl,.inl (.inl aq),(qN B l h).mono X4.sf⟩)
def Al(y:Str)(fb:XE):XE:=fun x=>(fb x).bind fun p=>match p.1 with
  | .int i=>if i.natAbs.log2 < 1900∧y.length≤1000∧((toString i:String):Str).length≤1000 then some (.str (Pm++y++(toString i:String)),p.2) else none
  | _=>none
theorem GU{y:Str}{j:Nat}{p0 p1:Pos}(hb:PE X b (hZ K C fb)):PE X (.JoinedStr [.Constant (.str y) j p0,.FormattedValue b (-1) none p1] pos) (hZ K C (Al y fb)):=fun pins s σ H Q I h=>by
  obtain⟨F,x,fp,r,x',R,hf,q⟩:=h
  unfold Al at hf
  obtain⟨⟨d,x1⟩,h1,hf⟩:=MJ hf
  dsimp only at hf
  split at hf
  case h_2=>cases hf
  case h_1 i=>
  split at hf
  case isFalse=>cases hf
  case isTrue hc=>
  cases hf
  have e0:(Pm).length=0:=rfl
  have l1:(Pm++y).length=y.length:=by rw [n9,e0];lia
  refine JoinedStr_many (joinParts_cons (cw (@uU X y j p0 pins s σ H (fun v H1=>v=.str y∧H1=H) I ⟨rfl,rfl⟩) fun v s1 ⟨xv,H1,I1,rv1,ex,eh⟩=>?_))
  subst ex
  subst eh
  obtain⟨t1,rfl⟩:=rv1
  refine⟨by rw [l1,NU];lia,joinParts_cons (FormattedValue_plain (cw (hb pins s1 σ H1 _ I1 ⟨F,x,fp,_,x',R,h1,fun F2 H2 v fp2 X2 R2 A2=>(⟨bO.mp A2,F2,fp2,X2,R2⟩:v=.int i∧∃F2 fp2,bE [] σ F H1 x.1 (Fo x.2 fp) σ F2 H2 x'.1 (Fo x'.2 fp2)∧aX K C F2 H2 σ x'.1 x'.2 fp2)⟩) fun v s2 ⟨yv,H2,I2,rv2,ey,F2,fp2,X2,R2⟩=>?_))⟩
  subst ey
  obtain⟨t2,rfl⟩:=rv2
  have hl2:=hc.2.2
  refine formatField_int_small (by lia) ⟨by rw [n9,l1,NU];lia,joinParts_nil ⟨.str _,H2,(I2.tok _).tok _,⟨_,rfl⟩,q F2 H2 _ fp2 X2 R2 (ik.mpr rfl)⟩ (by rw [n9,l1,NU];lia)⟩
end
theorem B2{K:MS}{F H:Hp}(sm:ao F H){rs:List Ar}{vs:List V}(hl:rs.length=vs.length)(hd:∀(k:Nat) (d:MT),rs[k]?=some (.inr d)→∃v,vs[k]?=some v∧DA K F d v):aY K F H (vs.map some) (pv rs):=by
  refine⟨sm,by unfold pv;simp [hl],fun i y hy=>?_,fun i ys hy=>?_,fun i ys hy=>?_,fun i j a hi _=>absurd ⟨i,hi⟩ (ek (et rs))⟩
  · rcases io hy with ⟨_,_,w⟩ | ⟨d,hk,w⟩
    · cases w
    · cases w
      obtain⟨v,g1,g2⟩:=hd _ _ hk
      exact⟨v,by rw [NF,g1];rfl,g2⟩
  · rcases io hy with ⟨_,_,w⟩ | ⟨_,_,w⟩<;>cases w
  · rcases io hy with ⟨_,_,w⟩ | ⟨_,_,w⟩<;>cases w
section
variable{K:MS}{C:xM}{F H F' H':Hp}{σ:L2.St}{e:En}{ob:hX}{fp:Lc→List xM}{i:Nat}
def pE(i:Nat)(ob:hX):hX:=ob.filter fun p=> !(p.1.slot==i)
end
section
variable{X:Cx}{K:MS}{C:xM}{fa fb:XE}{fs:XR}{f0:FS}{a b:MU}{es:List MU}{cf:List Na}{pos apos p p2:Pos}{W:List Nat}
end
section
variable{X:Cx}{K:MS}{C:xM}{f0:FS}{cf:List Na}{pos p p1 p2 p3:Pos}{W:List Nat}
def pI(c i j:Nat)(W:List Nat)(f:FS):XS:=fun x=>match x.2 with
  | [(.s k,.st xs ys)]=>if k=c∧i < x.1.length∧j < x.1.length∧i≠j∧c≠i∧c≠j∧i∉W∧j∉W∧c∉W then(f (((x.1.set i none).set j none).set i (some (.l xs)) |>.set j (some (.l ys)))).bind fun fl=>match fl with
      | .rt r e=>(gM r).bind fun d=>match e[i]?,e[j]?,e[c]? with
        | some (some (.l xs')),some (some (.l ys')),some none=>some (.rt d ((e.set i none).set j none,[(.s k,.st xs' ys')]))
        | _,_,_=>none
      | _=>none
    else none
  | _=>none
theorem xC{c i j k:Nat}{x y z:Str}(hK:X.K=K)(hc:X.calm=true)(ho:PE X (.Name z p) (oX c))(hN:X.N.Nodup)(hi:X.N[i]?=some x)(hj:X.N[j]?=some y)(hx:xT X.env.scope x)(hy:xT X.env.scope y)(hfx:X.fn x=true∨X.env.scope.names.lookup x=some .local)(hfy:X.fn y=true∨X.env.scope.names.lookup y=some .local)
    (hs:PN [.Tuple [.Name x p1,.Name y p2] k p3] (.Name z p) pos.line X.env=pure false)(hw:PP [.Tuple [.Name x p1,.Name y p2] k p3] (.Name z p) X.env=pure none)(h1:(NL [.Tuple [.Name x p1,.Name y p2] k p3] X.env).map (·.2)=[assign (.Tuple [.Name x p1,.Name y p2] k p3) X.env])
    (hn:(NL [.Name x p1,.Name y p2] X.env).length=2)(hst:(NL [.Name x p1,.Name y p2] X.env).findIdx? (·.1)=none)(ha:(NL [.Name x p1,.Name y p2] X.env).map (·.2)=assign (.Name x p1) X.env::(NL [.Name y p2] X.env).map (·.2))(hb:(NL [.Name y p2] X.env).map (·.2)=assign (.Name y p2) X.env::(NL [] X.env).map (·.2))
    (hr:i0 X cf (fS K f0 W)):i0 X (.Assign [.Tuple [.Name x p1,.Name y p2] k p3] (.Name z p) pos::cf) (pX K C (pI c i j W f0) (i::j::W)):=by
  refine(kU (zu ho (vQ hK hc (oy (rC hN hi hx hfx) (oy (rC hN hj hy hfy) vR hb) ha) hn hst) hs hw h1) hr).mono fun D σ H h=>?_
  obtain⟨F,⟨e,ob⟩,fp,fl,R,hf,q⟩:=h
  unfold pI at hf
  dsimp only at hf
  split at hf
  case h_2=>cases hf
  case h_1 kk xs ys=>
  split at hf
  case isFalse=>cases hf
  case isTrue hcnd=>
  obtain⟨rfl,li,lj,nij,nci,ncj,wi,wj,wc⟩:=hcnd
  obtain⟨fl1,g1,hf⟩:=MJ hf
  obtain⟨c1,v,c2,c3⟩:=R.obs _ (NN.mpr rfl)
  obtain⟨t,l,m,vs,us,rfl,efp,nlm,st,fl0,fm0,hl,hm,dx,dy⟩:=c3
  have c2:σ[kk]?=some (some (.ref t)):=c2
  have nf:∀a,a∈[l,m]→¬bw σ e H a:=fun a ha=>R.own a ⟨_,NN.mpr rfl,by rw [efp];exact ha⟩
  have R1:=((R.rel.drop i).poke (some (V.ref l)))
  have R2:=((R1.drop j).poke (some (V.ref m)))
  have lenσ:σ.length=e.length:=R.rel.len
  refine⟨_,c2,t,[.ref l,.ref m],rfl,R.rel.sm.tup st,rfl,.ref l,[.ref m],rfl,.ref m,[],rfl,rfl,?_⟩
  let e0:En:=(e.set i none).set j none
  have R2':aY K F H ((σ.set i (some (.ref l))).set j (some (.ref m))) e0:=R2
  have ow0:∀a,bw ((σ.set i (some (.ref l))).set j (some (.ref m))) e0 H a→bw σ e H a:=fun a ⟨q,z⟩=>by
    have z1:Fp (σ.set i (some (.ref l))) ((e.set i none).set j none) H q a:=gk.mp z
    exact bw.drop ⟨q,gk.mp z1.drop⟩
  obtain⟨R3,o3⟩:=R2'.setL i (xs:=xs) (l:=l) fl0 hl dx (fun z=>nf l (by simp) (ow0 l z))
  have eσ:((σ.set i (some (V.ref l))).set j (some (V.ref m))).set i (some (V.ref l))=(σ.set i (some (V.ref l))).set j (some (V.ref m)):=by
    refine Pu fun q=>?_
    by_cases z:i=q
    · subst z
      rw [Od (by simp;lia),Nq (Ny nij),Od (by lia)]
    · rw [Nq z]
  rw [eσ] at R3 o3
  obtain⟨R4,o4⟩:=R3.setL j (xs:=ys) (l:=m) fm0 hm dy (fun z=>by
    rcases o3 m z with w | w
    · exact nf m (by simp) (ow0 m w)
    · exact nlm w.symm)
  have eσ2:((σ.set i (some (V.ref l))).set j (some (V.ref m))).set j (some (V.ref m))=(σ.set i (some (V.ref l))).set j (some (V.ref m)):=by rw [List.set_set]
  rw [eσ2] at R4 o4
  have ow4:∀a,bw ((σ.set i (some (.ref l))).set j (some (.ref m))) ((e0.set i (some (.l xs))).set j (some (.l ys))) H a→bw σ e H a∨Fo [((Lc.s kk:Lc),Ob.st xs ys)] fp a:=fun a z=>by
    have fo:∀b∈[l,m],Fo [((Lc.s kk:Lc),Ob.st xs ys)] fp b:=fun b hb=>⟨_,NN.mpr rfl,by rw [efp];exact hb⟩
    rcases o4 a z with w | w
    · rcases o3 a w with w | w
      · exact .inl (ow0 a w)
      · rw [w];exact .inr (fo l (by simp))
    · rw [w];exact .inr (fo m (by simp))
  refine⟨F,_,fl1,R4,g1,?_⟩
  cases fl1 with
  | rt r e'=>
    obtain⟨d,h2,hf⟩:=MJ hf
    split at hf
    case h_2=>cases hf
    case h_1 xs' ys' ei ej ec=>
    cases hf
    intro F' H' σ' v X' R' A'
    have si:σ'[i]?=some (some (.ref l)):=by rw [X'.wr i wi,Nq (Ny nij),Od (by lia)]
    have sj:σ'[j]?=some (some (.ref m)):=by rw [X'.wr j wj,Od (by simp;lia)]
    have sc:σ'[kk]?=some (some (.ref t)):=by rw [X'.wr kk wc,Nq (Ny ncj),Nq (Ny nci)];exact c2
    obtain⟨l',vs',a1,a2,a3,a4⟩:=R'.own i xs' ei
    rw [si] at a1;cases a1
    obtain⟨m',us',b1,b2,b3,b4⟩:=R'.own j ys' ej
    rw [sj] at b1;cases b1
    obtain⟨F2,R2,s2,D2,f2⟩:∃F2,aY K F2 H' σ' e'∧ao F' F2∧DA K F2 d v∧∀a,F' a=none→H a≠none→F2 a=none:=by
      cases r with
      | d x=>cases h2;exact⟨F',R',ao.refl _,A',fun _ h _=>h⟩
      | s q=>cases h2
      | l zs=>cases h2;exact A'.frozen R'
    have fpi:Fp σ' e' H' i l:=.inl ⟨xs',ei,si⟩
    have fpj:Fp σ' e' H' j m:=.inl ⟨ys',ej,sj⟩
    have non:∀{q:Nat} {a:xM},Fp σ' ((e'.set i none).set j none) H' q a→q≠i∧q≠j:=fun{q a} z=>by
      have key:∀s:Sv,((e'.set i none).set j none)[q]?=some (some s)→q≠i∧q≠j:=fun s w=>by
        refine⟨fun z=>?_,fun z=>?_⟩
        · subst z
          have:=ku w
          rw [Py,if_pos rfl] at this
          split at this<;>cases this
        · subst z
          rw [Py,if_pos rfl] at w
          split at w<;>cases w
      rcases z with ⟨zs,w,_⟩ | ⟨zs,_,_,w,_⟩
      · exact key _ w
      · exact key _ w
    have hdrop:∀a,bw σ' ((e'.set i none).set j none) H' a→bw σ' e' H' a:=fun a z=>bw.drop (bw.drop z)
    have hln:H l≠none:=by rw [hl];simp
    have hmn:H m≠none:=by rw [hm];simp
    refine q F2 H' σ' v fp ⟨X'.sf.trans s2,X'.dom,fun a ws h1 h2 n1 n2=>f2 a (X'.fr a ws h1 h2 fun z=>(ow4 a z).elim n1 n2) (by rw [h2];simp),X'.lst,fun a o h n1 n2=>X'.tmp a o h fun z=>(ow4 a z).elim n1 n2,fun a z=>?_,fun q hq=>?_,fun a o h1 h2 n1 n2=>f2 a (X'.fd a o h1 h2 fun z=>(ow4 a z).elim n1 n2) (by rw [h2];simp)⟩ ⟨(R2.drop i).drop j,fun p hp=>?_,fun p hp p' hp' hne=>?_,fun a ha z=>?_⟩ D2
    · rcases z with z | z
      · rcases X'.own a (hdrop a z) with w | w
        · exact .inl (ow4 a w)
        · exact .inr w
      · obtain⟨p,hp,ha⟩:=z
        rw [NN] at hp
        subst hp
        exact .inl (.inr ⟨_,NN.mpr rfl,ha⟩)
    · have h1:q≠i:=fun z=>hq (by simp [z])
      have h2:q≠j:=fun z=>hq (by simp [z])
      have h3:q∉W:=fun z=>hq (by simp [z])
      rw [X'.wr q h3,Nq (Ny h2),Nq (Ny h1)]
    · rw [NN] at hp
      subst hp
      refine⟨?_,.ref t,sc,t,l,m,vs',us',rfl,efp,nlm,(X'.sf.trans s2).tup st,f2 l a2 hln,f2 m b2 hmn,a3,b3,a4.mono s2,b4.mono s2⟩
      show((e'.set i none).set j none)[kk]?=_
      rw [Nq (Ny ncj),Nq (Ny nci)]
      exact ec
    · rw [NN] at hp hp'
      subst hp;subst hp'
      exact absurd rfl hne
    · obtain⟨p,hp,ha⟩:=ha
      rw [NN] at hp
      subst hp
      have ha:a∈fp (Lc.s kk):=ha
      rw [efp] at ha
      obtain⟨q,zq⟩:=z
      obtain⟨n1,n2⟩:=non zq
      rcases MQ ha with w | w
      · subst w;exact n1 (R'.fp q i _ zq.drop.drop fpi)
      · rw [NN] at w;subst w;exact n2 (R'.fp q j _ zq.drop.drop fpj)
  | nx e'=>cases hf
  | bk e'=>cases hf
  | ct e'=>cases hf
end
structure FH (K:MS) (w:MV) (a:xM) (ms:List (Str × xM)):Prop where
  at_:∃es n,K.lookup a=some ⟨.type "dict",none,.dict es n,#[]⟩∧Paired (fun(e:Pe) (p:Str × xM)=>e.hash=hashStr w p.1∧(∃t,e.key=.str p.1 t)∧e.val=.ref p.2) es.toList ms
  nod:(ms.map (·.1)).Nodup
  sys:(a==sysModules)=false
theorem lZ(x:Str):∀(ms:List (Str × xM)),valueAt (ms.map fun p=>((Sum.inr p.1:iZ),Value.ref p.2)) (Sum.inr x)=(ms.lookup x).map Value.ref
  | []=>rfl
  | (y,a)::r=>by
    rw [NP,ND]
    unfold valueAt
    rw [List.find?_cons]
    cases c:x==y with
    | true=>
      rw [show decide ((Sum.inr y:iZ)=Sum.inr x)=true from decide_eq_true (by rw [eq_of_beq c])]
      rfl
    | false=>
      rw [show decide ((Sum.inr y:iZ)=Sum.inr x)=false from decide_eq_false (fun z=>by rw [Sum.inr.inj z] at c;simp at c)]
      exact lZ x r
theorem FH.dict{P:MZ}{w:MV}{K:MS}{a:xM}{ms:List (Str × xM)}(T:FH K w a ms){h:MY}(X:K.In h):h.DictOf (eg P w) a (ms.map fun p=>((Sum.inr p.1:iZ),Value.ref p.2)):=by
  obtain⟨es,n,h1,h2⟩:=T.at_
  refine⟨_,es,n,X a _ h1,⟨rfl,rfl,rfl⟩,rfl,fun e he=>?_,?_,?_⟩
  · have:∀{l:List Pe} {ms:List (Str × xM)},Paired (fun(e:Pe) (p:Str × xM)=>e.hash=hashStr w p.1∧(∃t,e.key=.str p.1 t)∧e.val=.ref p.2) l ms→∀e∈l,∃k:iZ,(eg P w).is k e.key=true∧e.hash=(eg P w).hash k:=by
      intro l ms h
      induction h with
      | nil=>intro e he;cases he
      | @cons e p l ms h _ ih=>
        intro e' he
        rcases MQ he with rfl | he
        · obtain⟨g1,⟨t,g2⟩,_⟩:=h
          exact⟨Sum.inr p.1,by rw [g2];exact jC p.1 t,g1⟩
        · exact ih e' he
    exact this h2 e (by simpa using he)
  · have:∀{l:List Pe} {ms:List (Str × xM)},Paired (fun(e:Pe) (p:Str × xM)=>e.hash=hashStr w p.1∧(∃t,e.key=.str p.1 t)∧e.val=.ref p.2) l ms→Pairs (eg P w) l (ms.map fun p=>((Sum.inr p.1:iZ),Value.ref p.2)):=by
      intro l ms h
      induction h with
      | nil=>exact .nil
      | @cons e p l ms h _ ih=>
        obtain⟨_,⟨t,g2⟩,g3⟩:=h
        refine .cons (kv:=(_,_)) ?_ g3 ih
        show sS (Sum.inr p.1) e.key=true
        rw [g2];exact jC _ t
    exact this h2
  · have:(ms.map fun p=>((Sum.inr p.1:iZ),Value.ref p.2)).map (·.1)=(ms.map (·.1)).map Sum.inr:=by simp [List.map_map,Function.comp]
    rw [this]
    exact List.pairwise_map.mpr (T.nod.imp fun h z=>h (Sum.inr.inj z))
section
variable{X:Cx}{K:MS}{C:xM}{a b:MU}{fa:FE}{cf:List Na}{pos p p1 p2 p3:Pos}{W:List Nat}
def B'(ks:List Str)(fa:FE):FT:=fun e=>(fa e).bind fun p=>(b6 p.1).map fun y=>(ks.any fun k=>y==k,p.2)
theorem sX(y:Str):∀(ms:List (Str × xM)),(ms.lookup y).isSome=(ms.map (·.1)).any fun k=>y==k
  | []=>rfl
  | (k,a)::r=>by
    rw [NP,ND,Qy]
    cases c:y==k with
    | true=>rfl
    | false=>simpa [c] using sX y r
theorem E1{x:Str}{q:xM}{ms:List (Str × xM)}{ks:List Str}(hK:X.K=K)(T:FH K X.w q ms)(hks:ms.map (·.1)=ks)(ha:PE X a (fE K fa))(hg:Gl X x)(hm:X.mg x=some (.ref q))(hd:(x==("__debug__":Str))=false)(hb:Ov .In (.Name x p)=false):PT X (.Compare a [.In] [.Name x p] pos) (fT K (B' ks fa)):=by
  subst hK
  subst hks
  have pc:PC X .In a (.Name x p) (fun σ H Q=>fE X.K fa σ H fun v H1=>∃y:Str,v=.str y∧Q (.bl (ms.lookup y).isSome) H1):=by
    intro pins s σ H Q I h
    refine cw (ha pins s σ H _ I h) fun iv s1 ⟨v,H1,I1,r1,y,ey,q1⟩=>kG I1 hg hm ?_ hd
    subst ey
    obtain⟨t,rfl⟩:=r1
    refine wpAny_in_of (knd:=eg X.prog X.w) (k:=Sum.inr y) (show(eg X.prog X.w).is (Sum.inr y) (.str y t)=true from jC y t) T.sys (T.dict I1.kIn).mapOf ?_
    rw [lZ,Option.isSome_map]
    exact⟨.bl _,H1,I1.tok _,rfl,q1⟩
  refine(EO pc hb).mono fun σ H Q h=>?_
  obtain⟨F,e,bb,e',R,hf,q⟩:=h
  unfold B' at hf
  obtain⟨⟨r,e1⟩,h1,hf⟩:=MJ hf
  obtain⟨y,h2,hf⟩:=ML hf
  cases hf
  exact⟨F,e,r,_,R,h1,fun F1 H1 v X1 R1 A1=>⟨y,cQ A1 h2,_,rfl,by rw [sX];exact q F1 H1 X1 R1⟩⟩
def Ij(X:Cx)(k:Nat)(f:xM)(m:FM):Prop:=∃fd ps,aA X.prog X.w X.K X.mg X.base bY k f fd ps (di X.K 2 m)∧dq X.K fd ps []∧OY X.K (.ref f)=true
def zX(i il iq:Nat)(qs:List (Str × FM)):XS:=fun x=>match x.1[il]? with
  | some (some (.d (.str y)))=>(qs.lookup y).bind fun m=>if jO [iq] x.2=true∧iq < x.1.length then bS (o6 2 m (bX (bQ i "web") (bX (bQ i "run") iX))) (x.1.set iq none,x.2) else none
  | _=>none
theorem zK{i il iq k:Nat}{x y z:Str}{qa:xM}{ms:List (Str × xM)}{qs:List (Str × FM)}{e1 e2:MU}{pos' rp cp:Pos}(hK:X.K=K)(T:FH K X.w qa ms)(hr:bI k X.A)(hq:∀(u:Str) (m:FM),qs.lookup u=some m→∃f,ms.lookup u=some f∧Ij X k f m)
    (hg:Gl X x)(hm:X.mg x=some (.ref qa))(hd:(x==("__debug__":Str))=false)(hl:PE X (.Name y p1) (oX il))(hN:X.N.Nodup)(hi:X.N[iq]?=some z)(hz:xT X.env.scope z)(hsw:OT (.Subscript (.Name x p) (.Name y p1) p2) (some (.Name z pos')) pos.line X.env=pure false)(hf:X.fn z=true∨X.env.scope.names.lookup z=some .local)
    (hv:PE X (.Name z p3) (oX iq))(ha:PA X [e1,e2] (AR K C (bX (bQ i "web") (bX (bQ i "run") iX))))(hst:Nf [e1,e2] X.env=(false,Nh e1 X.env)::Nf [e2] X.env)(hpl:(Nr cp (Nf [e2] X.env)).any (·.1)=false):
    i0 X [.Assign [.Name z pos'] (.Subscript (.Name x p) (.Name y p1) p2) pos,.Return (some (.Call (.Name z p3) [e1,e2] [] cp)) rp] (pX K C (zX i il iq qs) [iq]):=by
  subst hK
  have look:PE X (.Subscript (.Name x p) (.Name y p1) p2) (fun σ H Q=>∃(u:Str) (f:xM),σ[il]?=some (some (.str u))∧ms.lookup u=some f∧Q (.ref f) H):=by
    intro pins s σ H Q I h
    obtain⟨u,f,h1,h2,q⟩:=h
    refine B_ PySem.F.slot_dict_getitem.lookup (fun _ _=>rfl) (kG I hg hm (cw (hl pins s σ H (fun v H1=>v=.str u∧H1=H) I ⟨.str u,h1,rfl,rfl⟩) fun iv s1 ⟨v,H1,I1,r1,ev,eh⟩=>?_) hd)
    subst ev
    subst eh
    obtain⟨t,rfl⟩:=r1
    have dd:=T.dict (P:=X.prog) I1.kIn
    refine⟨dd.typeIs,wpAny_getItem_of (knd:=eg X.prog X.w) (k:=Sum.inr u) (show(eg X.prog X.w).is (Sum.inr u) (.str u t)=true from jC u t) dd.mapOf (v:=.ref f) (by rw [lZ,h2];rfl) ⟨.ref f,H1,I1.tok _,rfl,q⟩⟩
  have call:PE X (.Call (.Name z p3) [e1,e2] [] cp) (fun σ H Q=>∃f m,σ[iq]?=some (some (.ref f))∧Ij X k f m∧qr (di X.K 2 m) [] E0 (AR X.K C (bX (bQ i "web") (bX (bQ i "run") iX))) σ H Q):=by
    intro pins s σ H Q I h
    obtain⟨f,m,h1,⟨fd,ps,G,hb,hk⟩,q⟩:=h
    refine PR (cw (hv pins s σ H (fun v H1=>v=.ref f∧H1=H) I ⟨.ref f,h1,rfl,rfl⟩) fun fv s1 ⟨v,H1,I1,r1,ev,eh⟩=>?_)
    subst ev
    subst eh
    obtain rfl:fv=Value.ref f:=r1
    refine Qk (h₀:=X.base) I1.ok.mod.kin hk (cw (ha cp pins s1 σ H1 _ I1 q) fun us s2 ⟨vs,H2,I2,r,q2⟩=>⟨I2.kIn,?_⟩) hst hpl
    exact rL G hr hb .nil tK I2 r q2
  refine(kU (rD hN hi hz look hsw hf) (rE (uX call))).mono fun D σ H h=>?_
  obtain⟨F,⟨e,ob⟩,fp,fl,R,hf,q⟩:=h
  unfold zX at hf
  split at hf
  case h_2=>cases hf
  case h_1 u hu=>
  obtain⟨m,h1,hf⟩:=MJ hf
  split at hf
  case isFalse=>cases hf
  case isTrue hc=>
  obtain⟨hw,hlt⟩:=hc
  obtain⟨⟨d,x1⟩,h3,hf⟩:=ML hf
  cases hf
  obtain⟨f,g1,g2⟩:=hq u m h1
  obtain⟨v,c1,c2⟩:=R.rel.dat _ _ hu
  rw [ik.mp c2] at c1
  refine⟨u,f,c1,g1,?_⟩
  have hw':=oo hw
  have ne:∀p∈ob,iq≠p.1.slot:=fun p hp z=>hw' p hp (by rw [z];simp)
  have R2:aX X.K C F H (σ.set iq (some (.ref f))) (e.set iq none) ob fp:=⟨(R.rel.drop iq).poke _,fun p hp=>by
    obtain⟨d1,w,d2,d3⟩:=R.obs p hp
    exact⟨by rw [Nq (ne p hp)];exact d1,w,d2.mono (ao.refl _) (Nq (ne p hp)),d3⟩,R.dis,fun a ha z=>by
      obtain⟨j,zj⟩:=z
      exact R.own a ha (bw.drop ⟨j,gk.mp zj⟩)⟩
  have Y:bE [iq] σ F H e (Fo ob fp) (σ.set iq (some (.ref f))) F H (e.set iq none) (Fo ob fp):=⟨ao.refl _,fun _ z=>z,fun _ _ z _ _ _=>z,fun _ vs z=>⟨vs,z⟩,fun _ _ z _ _=>z,fun a z=>.inl (z.imp_left fun⟨j,zj⟩=>bw.drop ⟨j,gk.mp zj⟩),fun j n=>Nq (fun z=>n (by simp [z])),fun _ _ z _ _ _=>z⟩
  refine⟨f,m,Od (by rw [R.rel.len];exact hlt),g2,wC ⟨F,(e.set iq none,ob),fp,d,x1,R2,h3,fun F1 H1 w fp1 X1 R1 A1=>?_⟩⟩
  exact q F1 H1 _ w fp1 (Y.trans (X1.mono fun j h=>by cases h)) R1 A1
end
def yM(m:MX):FM:=fun as=>if wW (as.map some)=true then(m (as.map some,[])).map fun z=>(.d z.1,as) else none
section
variable{P:MZ}{w:MV}{K:MS}{C:xM}{mg:Str→Option Kg}{base:MY}
theorem Eb{k n:Nat}{f:xM}{fd:Nj}{ps:List Str}{m:MX}(G:aA P w K mg base bY k f fd ps (my K C n m)):aA P w K mg base bY k f fd ps (di K n (yM m)):=G.imp fun vs H Q E h=>by
  obtain⟨hl,F,as,r,as',R,nN,hm,hn,q⟩:=h
  unfold yM at hm
  split at hm
  case isFalse=>cases hm
  case isTrue hd=>
  obtain⟨⟨d,oc⟩,h1,hm⟩:=ML hm
  cases hm
  refine⟨hl,F,(as.map some,[]),fun _=>[],d,oc,⟨R,(fun p hp=>by cases hp),(fun p hp=>by cases hp),(fun a ⟨p,hp,_⟩=>by cases hp)⟩,hd,h1,fun F' H' v fp' X R' A=>?_⟩
  have nS:∀a,¬Fo ([]:hX) (fun _=>[]) a:=fun a ⟨p,hp,_⟩=>by cases hp
  exact q F' H' v ⟨X.sf,X.dom,fun a vs h1 h2 h3=>X.fr a vs h1 h2 h3 (nS a),X.lst,fun a o h1 h2=>X.tmp a o h1 h2 (nS a),fun _=>Iff.rfl,fun a z=>absurd z (ek hd),fun a o h1 h2 h3=>X.fd a o h1 h2 h3 (nS a)⟩ R'.rel A
end
section
variable{K:MS}{C:xM}{W:List Nat}{F H F' H':Hp}{σ σ':L2.St}{e e':En}{ob:hX}{fp:Lc→List xM}{i:Nat}{S S' T:xM→Prop}
theorem bE.addS(X:bE W σ F H e S σ' F' H' e' S')(hT:∀a,T a→¬bw σ e H a∧¬S a∧H a≠none):bE W σ F H e (fun a=>S a∨T a) σ' F' H' e' fun a=>S' a∨T a:=
  ⟨X.sf,X.dom,fun a vs h1 h2 h3 h4=>X.fr a vs h1 h2 h3 fun z=>h4 (.inl z),X.lst,fun a o h1 h2 h3=>X.tmp a o h1 h2 fun z=>h3 (.inl z),fun a z=>by
    rcases z with z | z | z
    · exact(X.own a (.inl z)).imp_left fun w=>w.imp_right .inl
    · exact(X.own a (.inr z)).imp_left fun w=>w.imp_right .inl
    · exact .inl (.inr (.inr z)),X.wr,fun a m h1 h2 h3 h4=>X.fd a m h1 h2 h3 fun z=>h4 (.inl z)⟩
theorem jI.keep{o:Ob}{v:V}{fs:List xM}(h:jI K C F H o v fs)(X:bE W σ F H e S σ' F' H' e' S')(hn:∀a∈fs,¬bw σ e H a∧¬S a):jI K C F' H' o v fs:=h.mono X.sf (fun a ha=>by
    obtain⟨g1,u,g2,g3⟩:=h.at a ha
    cases u with
    | ins c d fs=>exact X.fd a ⟨_,rfl⟩ g1 g2 (hn a ha).1 (hn a ha).2
    | lst vs=>exact X.fr a vs g1 g2 (hn a ha).1 (hn a ha).2
    | _=>cases g3) fun a ha=>by
    obtain⟨g1,u,g2,g3⟩:=h.at a ha
    rw [g2];exact X.tmp a u g2 (hn a ha).1 (hn a ha).2
theorem aX.later(R:aX K C F H σ e ob fp)(sF:ao F F')(sm:ao F' H')(dom:∀a,H' a=none→H a=none)(tmp:∀a u,H a=some u→H' a=some u)
    (fr:∀a,F a=none→(∃u,H a=some u∧(kept u=true∨CQ u=true))→F' a=none)(hT:∀a,T a→H a=none):
    bE [] σ F H e (Fo ob fp) σ F' H' e (fun a=>Fo ob fp a∨T a)∧aX K C F' H' σ e ob fp∧∀a,T a→¬Fo ob fp a∧¬bw σ e H' a:=by
  obtain⟨R2,o2⟩:=R.rel.keep sF sm (fun a h=>by
    obtain⟨j,hj⟩:=h
    obtain⟨h1,vs,h2⟩:=R.rel.fpAt hj
    exact fr a h1 ⟨_,h2,.inl rfl⟩) (fun a o h q=>tmp a o q)
  refine⟨⟨sF,dom,fun a vs h1 h2 _ _=>fr a h1 ⟨_,h2,.inl rfl⟩,fun a vs h=>⟨vs,tmp a _ h⟩,fun a u h _ _=>tmp a u h,fun a z=>?_,fun j n=>rfl,fun a m h1 h2 _ _=>fr a h1 ⟨_,h2,.inr m.2⟩⟩,⟨R2,fun p hp=>?_,R.dis,fun a ha z=>R.own a ha ((o2 a).mp z)⟩,fun a ha=>⟨fun z=>R.hn a z (hT a ha),fun z=>R.rel.ownH a ((o2 a).mp z) (hT a ha)⟩⟩
  · rcases z with z | z | z
    · exact .inl (.inl ((o2 a).mp z))
    · exact .inl (.inr z)
    · exact .inr (hT a z)
  · obtain⟨c1,u,c2,c3⟩:=R.obs p hp
    refine⟨c1,u,c2.mono sF rfl,c3.mono sF (fun a ha=>?_) fun a ha=>?_⟩
    · obtain⟨g1,w,g2,g3⟩:=R.at ⟨p,hp,ha⟩
      exact fr a g1 ⟨w,g2,.inl g3⟩
    · obtain⟨g1,w,g2,g3⟩:=R.at ⟨p,hp,ha⟩
      rw [g2];exact tmp a w g2
end
abbrev XN:=EX→Option (Ob × EX)
abbrev Cw:=EX→Option (List Ob × EX)
abbrev Nw:=Ob × V × List xM
def Cu(ts:List Nw)(a:xM):Prop:=∃t∈ts,a∈t.2.2
def Iz(K:MS)(C:xM)(f:XN):TE:=fun σ H Q=>∃F x fp o x',aX K C F H σ x.1 x.2 fp∧f x=some (o,x')∧∀F' H' v fs fp',bE [] σ F H x.1 (Fo x.2 fp) σ F' H' x'.1 (fun a=>Fo x'.2 fp' a∨a∈fs)→aX K C F' H' σ x'.1 x'.2 fp'→jI K C F' H' o v fs→(∀a,a∈fs→¬Fo x'.2 fp' a∧¬bw σ x'.1 H' a)→Q v H'
structure Ih (K:MS) (C:xM) (F H:Hp) (σ:L2.St) (e:En) (S:xM→Prop) (ts:List Nw):Prop where
  at_:∀t∈ts,jI K C F H t.1 t.2.1 t.2.2
  no:∀a,Cu ts a→¬S a∧¬bw σ e H a
  dis:ts.Pairwise fun t s=>∀a∈t.2.2,a∉s.2.2
def HL(K:MS)(C:xM)(f:Cw):TA:=fun σ H Q=>∃F x fp os x',aX K C F H σ x.1 x.2 fp∧f x=some (os,x')∧∀F' H' ts fp',ts.map (·.1)=os→bE [] σ F H x.1 (Fo x.2 fp) σ F' H' x'.1 (fun a=>Fo x'.2 fp' a∨Cu ts a)→aX K C F' H' σ x'.1 x'.2 fp'→Ih K C F' H' σ x'.1 (Fo x'.2 fp') ts→Q (ts.map (·.2.1)) H'
section
variable{X:Cx}{K:MS}{C:xM}{fa fb:XE}{fn:XN}{fs:Cw}{a b:MU}{es:List MU}{pos p p2:Pos}{i:Nat}
def xl:Cw:=fun x=>some ([],x)
def gT(fn:XN)(fs:Cw):Cw:=fun x=>(fn x).bind fun p=>(fs p.2).map fun q=>(p.1::q.1,q.2)
theorem vZ:PA X [] (HL K C xl):=fP.mono fun σ H Q h=>by
  obtain⟨F,x,fp,os,x',R,hf,q⟩:=h
  cases hf
  exact q F H [] fp rfl ⟨ao.refl _,fun _ h=>h,fun _ _ h _ _ _=>h,fun _ vs h=>⟨vs,h⟩,fun _ _ h _ _=>h,fun a z=>.inl (z.imp_right fun w=>w.elim id fun⟨_,h,_⟩=>by cases h),fun _ _=>rfl,fun _ _ h _ _ _=>h⟩ R ⟨fun t h=>(by cases h),fun a ⟨t,h,_⟩=>(by cases h),.nil⟩
theorem vY(ha:PE X a (Iz K C fn))(hr:PA X es (HL K C fs))(h:Pc a=false):PA X (a::es) (HL K C (gT fn fs)):=(tJ ha hr h).mono fun σ H Q h=>by
  obtain⟨F,x,fp,os,x',R,hf,q⟩:=h
  unfold gT at hf
  obtain⟨⟨o,x1⟩,h1,hf⟩:=MJ hf
  obtain⟨⟨os1,x2⟩,h2,hf⟩:=ML hf
  cases hf
  refine⟨F,x,fp,o,x1,R,h1,fun F1 H1 v ws fp1 X1 R1 A1 N1=>⟨F1,x1,fp1,os1,x2,R1,h2,fun F2 H2 ts fp2 e2 X2 R2 N2=>?_⟩⟩
  have X2':=X2.addS (T:=fun a=>a∈ws) fun a ha=>⟨(N1 a ha).2,(N1 a ha).1,fun z=>by
    obtain⟨_,u,g,_⟩:=A1.at a ha
    rw [g] at z;cases z⟩
  have A2:=A1.keep X2 fun a ha=>⟨(N1 a ha).2,(N1 a ha).1⟩
  have old:∀a,a∈ws→¬(bw σ x2.1 H2 a∨(Fo x2.2 fp2 a∨Cu ts a)):=fun a ha z=>by
    rcases X2.own a z with w | w
    · exact w.elim (N1 a ha).2 (N1 a ha).1
    · obtain⟨_,u,g,_⟩:=A1.at a ha
      rw [g] at w;cases w
  have cn:∀a,Cu ((o,v,ws)::ts) a↔ a∈ws∨Cu ts a:=fun a=>by
    unfold Cu
    simp
  refine q F2 H2 ((o,v,ws)::ts) fp2 (by rw [ND,e2]) ?_ R2 ⟨fun t ht=>?_,fun a ha=>?_,?_⟩
  · have Y:=X1.trans X2'
    exact⟨Y.sf,Y.dom,Y.fr,Y.lst,Y.tmp,fun a z=>Y.own a (z.imp_right fun w=>by
      rcases w with w | w
      · exact .inl (.inl w)
      · exact((cn a).mp w).elim (fun w=>.inr w) fun w=>.inl (.inr w)),Y.wr,Y.fd⟩
  · rcases MQ ht with rfl | ht
    · exact A2
    · exact N2.at_ t ht
  · rcases(cn a).mp ha with w | w
    · exact⟨fun z=>old a w (.inr (.inl z)),fun z=>old a w (.inl z)⟩
    · exact N2.no a w
  · exact QP.mpr ⟨fun t ht a ha hb=>old a ha (.inr (.inr ⟨t,ht,hb⟩)),N2.dis⟩
end
section
variable{X:Cx}{K:MS}{C:xM}{fa fb:XE}{fn:XN}{fs:Cw}{a b:MU}{es:List MU}{pos p p2:Pos}{i:Nat}
def CV(m:MX)(fa:XE):XN:=fun x=>(fa x).bind fun p=>(m ([none,some (.d p.1)],[(.s 0,.dk [])])).bind fun z=>match z with
  | (.none,[(.s 0,.dk fs)])=>some (.dk fs,p.2)
  | _=>none
theorem vX{k:Nat}{y:Str}{f:xM}{fd:Nj}{ps:List Str}{m:MX}{cpos:Pos}(hK:X.K=K)(M:Mk K C f)(G:aA X.prog X.w X.K X.mg X.base bY k f fd ps (my K C 2 m))(hr:bI (k+1) X.A)(hg:Gl X y)(hm:X.mg y=some (.ref C))(hb:dq X.K fd ps [])(ha:PE X a (hZ K C fa))
    (hst:Pc a=false)(hdb:(y==("__debug__":Str))=false)(he:Nf [a] X.env=(false,Nh a X.env)::Nf [] X.env)(hpl:(Nr cpos (Nf [] X.env)).any (·.1)=false):
    PE X (.Call (.Name y p) [a] [] cpos) (Iz K C (CV m fa)):=by
  subst hK
  refine(BL M G hr hg hm hb .nil tK (tJ ha fP hst) hdb he hpl).mono fun σ H Q h=>?_
  obtain⟨F,x,fp,ob,x',R,hf,q⟩:=h
  unfold CV at hf
  obtain⟨⟨d,x1⟩,h1,hf⟩:=MJ hf
  obtain⟨⟨r,oc⟩,h2,hf⟩:=MJ hf
  dsimp only at hf h2
  split at hf
  case h_2=>cases hf
  case h_1 fs heq=>
  cases heq
  cases hf
  refine⟨F,x,fp,d,_,R,h1,fun F1 H1 v fp1 X1 R1 A1=>fun o dx ho hdx hne=>?_⟩
  show my X.K C 2 m (.ref o::([v]++[])) _ _ _
  let H2:Hp:=bv (bv H1 dx (.own o)) o (.ins C dx [])
  have up:∀a u,H1 a=some u→H2 a=some u:=fun a u z=>by
    have n1:a≠o:=fun w=>by rw [w,ho] at z;cases z
    have n2:a≠dx:=fun w=>by rw [w,hdx] at z;cases z
    show bv (bv H1 dx _) o _ a=_
    rw [ar n1,ar n2];exact z
  have dn:∀a,H2 a=none→H1 a=none:=fun a z=>by
    cases w:H1 a with
    | none=>rfl
    | some u=>rw [up a u w] at z;cases z
  have sm2:ao F1 H2:=fun a u z=>up a u (R1.rel.sm a u z)
  have fo:F1 o=none:=R1.rel.freeF ho
  have Rc:aX X.K C F1 H2 ([V.ref o,v].map some) (pv [.inl (.s 0),.inr d]) [(.s 0,.dk [])] fun _=>[o]:=by
    refine⟨B2 sm2 rfl fun k d' hk=>?_,fun p hp=>?_,fun p hp q hq hne=>?_,fun a _=>ek (et _)⟩
    · match k,hk with
      | 1,hk=>cases hk;exact⟨v,rfl,A1⟩
    · rw [NN] at hp
      subst hp
      exact⟨rfl,.ref o,rfl,o,dx,[],rfl,rfl,fo,aq,rfl⟩
    · rw [NN] at hp hq
      subst hp;subst hq
      exact absurd rfl hne
  refine⟨rfl,F1,(pv [.inl (.s 0),.inr d],[(.s 0,.dk [])]),_,_,_,Rc,et _,h2,fun F' H' w fq X3 R3 A3=>⟨ee.mp A3,?_⟩⟩
  have nO:∀a,¬bw ([V.ref o,v].map some) (pv [.inl (.s 0),.inr d]) H2 a:=fun a=>ek (et _)
  have nS:∀a u,H1 a=some u→¬Fo [((Lc.s 0:Lc),Ob.dk [])] (fun _=>[o]) a:=fun a u z=>by
    rintro⟨p,_,hp⟩
    rw [NN] at hp
    rw [hp,ho] at z;cases z
  obtain⟨_,u,g1,g2⟩:=R3.obs _ (NN.mpr rfl)
  have g1:some (some (V.ref o))=some (some u):=g1
  cases g1
  obtain⟨o',dx',gs,e1,e2,e3,e4,e5⟩:=g2
  cases e1
  obtain⟨Y,R4,N4⟩:=R1.later (T:=fun a=>a∈[o]) (F':=F') (H':=H') X3.sf R3.rel.sm (fun a z=>dn a (X3.dom a z)) (fun a u z=>X3.tmp a u (up a u z) (nO a) (nS a u z))
    (fun a g1 ⟨u,g2,g3⟩=>by
      by_cases k:CQ u=true
      · exact X3.fd a ⟨u,k⟩ g1 (up a u g2) (nO a) (nS a u g2)
      · rcases g3 with g3 | g3
        · cases u with
          | lst us=>exact X3.fr a us g1 (up a _ g2) (nO a) (nS a _ g2)
          | ins c d fs=>exact absurd rfl k
          | _=>cases g3
        · exact absurd g3 k) fun a ha=>by rw [NN] at ha;rw [ha];exact ho
  exact q F' H' _ [o] _ (X1.trans Y) R4 ⟨o,dx',gs,rfl,rfl,e3,e4,e5⟩ N4
def Eh:XN:=fun x=>some (.st [] [],x)
theorem tN{j:Nat}{q1 q2 q3:Pos}:PE X (.Tuple [.List [] q1,.List [] q2] j q3) (Iz K C Eh):=(zm (tJ (rB fP) (tJ (rB fP) fP rfl) rfl)).mono fun σ H Q h=>by
  obtain⟨F,x,fp,o,x',R,hf,q⟩:=h
  cases hf
  refine⟨ON _,fun l hl=>⟨ON _,fun m hm=>⟨by show 2≤Nl;decide,fun t ht=>?_⟩⟩⟩
  have nm:m≠l:=fun w=>by rw [w,aq] at hm;cases hm
  have nt:t≠m:=fun w=>by rw [w,aq] at ht;cases ht
  rw [ar nm] at hm
  rw [ar nt] at ht
  have ntl:t≠l:=fun w=>by rw [w,aq] at ht;cases ht
  rw [ar ntl] at ht
  let H2:Hp:=bv (bv (bv H l (.lst [])) m (.lst [])) t (.tup [.ref l,.ref m])
  have up:∀a u,H a=some u→H2 a=some u:=fun a u z=>by
    have n1:a≠t:=fun w=>by rw [w,ht] at z;cases z
    have n2:a≠m:=fun w=>by rw [w,hm] at z;cases z
    have n3:a≠l:=fun w=>by rw [w,hl] at z;cases z
    show bv (bv (bv H l _) m _) t _ a=_
    rw [ar n1,ar n2,ar n3];exact z
  have dn:∀a,H2 a=none→H a=none:=fun a z=>by
    cases w:H a with
    | none=>rfl
    | some u=>rw [up a u w] at z;cases z
  have fr:∀{a},H a=none→F a=none:=fun h=>R.rel.freeF h
  have sF:ao F (bv F t (.tup [.ref l,.ref m])):=ao.new (fr ht)
  have hl2:H2 l=some (.lst []):=by show bv (bv (bv H l _) m _) t _ l=_;rw [ar (Ny ntl),ar (Ny nm),aq]
  have hm2:H2 m=some (.lst []):=by show bv (bv (bv H l _) m _) t _ m=_;rw [ar (Ny nt),aq]
  obtain⟨Y,R4,N4⟩:=R.later (T:=fun a=>a∈[l,m]) (F':=bv F t (.tup [.ref l,.ref m])) (H':=H2) sF (fun a u z=>by
      by_cases w:a=t
      · subst w;rw [aq] at z;cases z;exact aq
      · rw [ar w] at z;exact up a u (R.rel.sm a u z)) dn up (fun a z ⟨u,g,_⟩=>by
      have:a≠t:=fun w=>by rw [w,ht] at g;cases g
      rw [ar this];exact z) fun a ha=>by
      rcases MQ ha with w | w
      · rw [w];exact hl
      · rw [NN] at w;rw [w];exact hm
  exact q _ _ _ [l,m] _ Y R4 ⟨t,l,m,[],[],rfl,rfl,fun w=>nm w.symm,.inl (.inl aq),by rw [ar (Ny ntl)];exact fr hl,by rw [ar (Ny nt)];exact fr hm,hl2,hm2,aN.nil,aN.nil⟩ N4
end
def xn(i:Nat):Nat→List Ob→hX
  | _,[]=>[]
  | k,o::r=>(.it i k,o)::xn i (k+1) r
theorem tw{i:Nat}{p:Lc × Ob}:∀{os:List Ob} {k:Nat},p∈xn i k os→∃j,p.1=.it i (k+j)∧os[j]?=some p.2
  | [],_,h=>by cases h
  | o::r,k,h=>by
    rcases MQ h with rfl | h
    · exact⟨0,rfl,rfl⟩
    · obtain⟨j,h1,h2⟩:=tw h
      exact⟨j+1,by rw [h1];congr 1;lia,by simpa using h2⟩
def Bh(i:Nat)(ts:List Nw)(fp:Lc→List xM):Lc→List xM:=fun c=>if c.slot=i then(match c with
  | .it _ k=>((ts[k]?).map fun t=>t.2.2).getD []
  | .s _=>[]) else fp c
def tT(i:Nat)(fs:Cw):XS:=fun x=>(fs x).bind fun p=>if i < p.2.1.length∧p.1.length≤1000 then some (.nx (p.2.1.set i none,xn i 0 p.1++pE i p.2.2)) else none
section
variable{X:Cx}{K:MS}{C:xM}{fs:Cw}{es:List MU}{pos:Pos}{i:Nat}
theorem tO{x:Str}{pos' q0:Pos}(hN:X.N.Nodup)(hi:X.N[i]?=some x)(hx:xT X.env.scope x)(he:PA X es (HL K C fs))(hs:OT (.List es q0) (some (.Name x pos')) pos.line X.env=pure false)(hf:X.fn x=true∨X.env.scope.names.lookup x=some .local):
    PS X (.Assign [.Name x pos'] (.List es q0) pos) (pX K C (tT i fs) [i]):=by
  refine(rD hN hi hx (rB he) hs hf).mono fun D σ H h=>?_
  obtain⟨F,x,fp,fl,R,hf,q⟩:=h
  unfold tT at hf
  obtain⟨⟨os,x1⟩,h1,hf⟩:=MJ hf
  split at hf
  case isFalse=>cases hf
  case isTrue hlt=>
  obtain⟨hlt,hle⟩:=hlt
  dsimp only at hlt hle
  cases hf
  refine⟨F,x,fp,os,x1,R,h1,fun F1 H1 ts fp1 e1 X1 R1 N1=>⟨?_,fun l hl=>?_⟩⟩
  · have:1000≤Nl:=by decide
    have:(ts.map fun t=>t.2.1).length=os.length:=by rw [←e1,NC,NC]
    lia
  subst e1
  have fl:F1 l=none:=R1.rel.freeF hl
  have up:∀a u,H1 a=some u→bv H1 l (.lst (ts.map fun t=>t.2.1)) a=some u:=fun a u z=>by
    rw [ar (fun w=>by rw [w,hl] at z;cases z)];exact z
  have sF:ao F1 (bv F1 l (.lst (ts.map fun t=>t.2.1))):=ao.new fl
  obtain⟨Y,R2,_⟩:=R1.later (T:=fun _=>False) (F':=bv F1 l (.lst (ts.map fun t=>t.2.1))) (H':=bv H1 l (.lst (ts.map fun t=>t.2.1))) sF (fun a u z=>by
      by_cases w:a=l
      · subst w;rw [aq] at z;cases z;exact aq
      · rw [ar w] at z;exact up a u (R1.rel.sm a u z)) (fun a z=>by
      by_cases w:a=l
      · rw [w];exact hl
      · rwa [ar w] at z) up (fun a z ⟨u,g,_⟩=>by
      rw [ar (fun w=>by rw [w,hl] at g;cases g)];exact z) fun a ha=>ha.elim
  have at2:∀t∈ts,jI K C (bv F1 l (.lst (ts.map fun t=>t.2.1))) (bv H1 l (.lst (ts.map fun t=>t.2.1))) t.1 t.2.1 t.2.2:=fun t ht=>(N1.at_ t ht).keep Y fun a ha=>⟨(N1.no a ⟨t,ht,ha⟩).2,(N1.no a ⟨t,ht,ha⟩).1⟩
  have old:∀a,Cu ts a→H1 a≠none:=fun a ⟨t,ht,ha⟩ z=>by
    obtain⟨_,u,g,_⟩:=(N1.at_ t ht).at a ha
    rw [g] at z;cases z
  have R3:=(R2.rel.drop i).poke (some (V.ref l))
  have o3:∀a,bw (σ.set i (some (V.ref l))) (x1.1.set i none) (bv H1 l (.lst (ts.map fun t=>t.2.1))) a→(bw σ x1.1 H1 a∨Fo x1.2 fp1 a)∨H1 a=none:=fun a ⟨j,z⟩=>Y.own a (.inl (bw.drop ⟨j,gk.mp z⟩))
  have mo:∀{p},p∈pE i x1.2→p∈x1.2∧p.1.slot≠i:=fun{p} h=>by
    obtain⟨h1,h2⟩:=Ph.mp h
    exact⟨h1,by simpa using h2⟩
  have nt:∀{p},p∈xn i 0 (ts.map (·.1))→∃(j:Nat) (t:Nw),p.1=.it i j∧ts[j]?=some t∧p.2=t.1∧Bh i ts fp1 p.1=t.2.2:=fun{p} h=>by
    obtain⟨j,h1,h2⟩:=tw h
    rw [PK] at h1
    rw [NF] at h2
    obtain⟨t,h3,h4⟩:=ML h2
    refine⟨j,t,h1,h3,h4.symm,?_⟩
    rw [h1]
    refine(if_pos (show(Lc.it i j).slot=i from rfl)).trans ?_
    show((ts[j]?).map fun t=>t.2.2).getD []=_
    rw [h3]
    rfl
  have fo:∀{p:Lc × Ob},p.1.slot≠i→Bh i ts fp1 p.1=fp1 p.1:=fun h=>if_neg h
  have sub:∀a,Fo (xn i 0 (ts.map (·.1))++pE i x1.2) (Bh i ts fp1) a→Fo x1.2 fp1 a∨Cu ts a:=by
    rintro a ⟨p,hp,ha⟩
    rcases MO hp with hp | hp
    · obtain⟨j,t,g1,g2,g3,g4⟩:=nt hp
      rw [g4] at ha
      exact .inr ⟨t,MR g2,ha⟩
    · obtain⟨g1,g2⟩:=mo hp
      rw [fo g2] at ha
      exact .inl ⟨p,g1,ha⟩
  refine q _ _ _ (Bh i ts fp1) ((X1.mono (fun j h=>by cases h)).trans ⟨sF,Y.dom,fun a vs h1 h2 _ _=>by
      rw [ar (fun w=>by rw [w,hl] at h2;cases h2)];exact h1,Y.lst,fun a u h _ _=>up a u h,fun a z=>?_,fun j n=>Nq (fun z=>n (by simp [z])),fun a m h1 h2 _ _=>by
      rw [ar (fun w=>by rw [w,hl] at h2;cases h2)];exact h1⟩) ⟨R3,fun p hp=>?_,fun p hp s hs hne a ha hb=>?_,fun a ha z=>?_⟩
  · rcases z with z | z
    · exact(o3 a z).imp_left fun w=>w.imp_right .inl
    · exact .inl (.inr (sub a z))
  · rcases MO hp with hp | hp
    · obtain⟨j,t,g1,g2,g3,g4⟩:=nt hp
      refine⟨by rw [g1];exact Od hlt,t.2.1,?_,?_⟩
      · rw [g1]
        exact⟨l,_,Od (by rw [R2.rel.len];exact hlt),aq,by rw [NF,g2];rfl⟩
      · rw [g3,g4];exact at2 t (MR g2)
    · obtain⟨g1,g2⟩:=mo hp
      obtain⟨c1,u,c2,c3⟩:=R2.obs p g1
      exact⟨by rw [Nq (Ny g2)];exact c1,u,c2.mono (ao.refl _) (Nq (Ny g2)),by rw [fo g2];exact c3⟩
  · rcases MO hp with hp | hp
    · obtain⟨j,t,g1,g2,g3,g4⟩:=nt hp
      rw [g4] at ha
      rcases MO hs with hs | hs
      · obtain⟨k,t',d1,d2,d3,d4⟩:=nt hs
        rw [d4] at hb
        have pw:=List.pairwise_iff_getElem.mp N1.dis
        obtain⟨w1,w2⟩:=MN g2
        obtain⟨v1,v2⟩:=MN d2
        rcases Nat.lt_trichotomy j k with c | c | c
        · have:=pw j k w1 v1 c;rw [w2,v2] at this;exact this a ha hb
        · exact hne (by rw [g1,d1,c])
        · have:=pw k j v1 w1 c;rw [w2,v2] at this;exact this a hb ha
      · obtain⟨d1,d2⟩:=mo hs
        rw [fo d2] at hb
        exact(N1.no a ⟨t,MR g2,ha⟩).1 ⟨s,d1,hb⟩
    · obtain⟨g1,g2⟩:=mo hp
      rw [fo g2] at ha
      rcases MO hs with hs | hs
      · obtain⟨k,t',d1,d2,d3,d4⟩:=nt hs
        rw [d4] at hb
        exact(N1.no a ⟨t',MR d2,hb⟩).1 ⟨p,g1,ha⟩
      · obtain⟨d1,d2⟩:=mo hs
        rw [fo d2] at hb
        exact R2.dis p g1 s d1 hne a ha hb
  · rcases sub a ha with w | w
    · exact R2.own a w (let ⟨j,zq⟩:=z;bw.drop ⟨j,gk.mp zq⟩)
    · rcases o3 a z with (y | y) | y
      · exact(N1.no a w).2 y
      · exact(N1.no a w).1 y
      · exact old a w y
def ud(i:Nat)(fb:FE)(fs:XR):XR:=fun x=>(fb x.1).bind fun p=>match cq p.1 with
  | some n=>if 0≤n∧(x.2.lookup (.it i n.toNat)).isSome=true∧okO x.2 p.2=true then(fs (p.2,x.2)).map fun q=>(.inl (.it i n.toNat)::q.1,q.2) else none
  | none=>none
end
section
variable{X:Cx}{K:MS}{C:xM}{fb:FE}{fs:XR}{a b:MU}{es:List MU}{pos:Pos}{i:Nat}
theorem zS(hK:X.K=K)(ha:PE X a (oX i))(hb:PE X b (fE K fb))(hp:kg b)(hr:PA X es (Av K C fs))(h:Pc (.Subscript a b pos)=false):PA X (.Subscript a b pos::es) (Av K C (ud i fb fs)):=by
  subst hK
  refine(tJ (zh vM ha hb hp) hr h).mono fun σ H Q h=>?_
  obtain⟨F,x,fp,rs,x',R,hf,q⟩:=h
  unfold ud at hf
  obtain⟨⟨r,e1⟩,h1,hf⟩:=MJ hf
  dsimp only at hf
  split at hf
  case h_2=>cases hf
  case h_1 n hn=>
  split at hf
  case isFalse=>cases hf
  case isTrue hs=>
  obtain⟨n0,hs,ho⟩:=hs
  obtain⟨⟨xs,x2⟩,h2,hf⟩:=ML hf
  cases hf
  obtain⟨o,ho'⟩:=Option.isSome_iff_exists.mp hs
  obtain⟨_,v,g1,_⟩:=R.obs _ (cP ho')
  obtain⟨l,vs,d1,d2,d3⟩:=id g1
  refine⟨.ref l,d1,F,x.1,r,e1,R.rel,h1,fun F1 H1 y X1 R1 A1=>?_⟩
  obtain⟨Y,R2⟩:=R.pure X1 R1 ho
  have hy:=cy A1 hn
  subst hy
  have hlt:n.toNat < vs.length:=(MN d3).1
  refine⟨l,vs,n,v,rfl,rfl,gF.of (R1.sm _ _ (X1.sf _ _ d2)),by rw [gy n0 (by lia)];exact d3,?_⟩
  refine⟨F1,(e1,x.2),fp,xs,_,R2,h2,fun F2 H2 us fp2 X2 R3 A2=>?_⟩
  exact q F2 H2 (v::us) fp2 (Y.trans X2) R3 ⟨v,us,rfl,g1.mono (Y.sf.trans X2.sf) rfl,A2⟩
end
section
variable{K:MS}{C:xM}{W:List Nat}{F H F' H' F2 F3:Hp}{σ σ':L2.St}{e e':En}{ob:hX}{fp:Lc→List xM}{i:Nat}{S S' T:xM→Prop}
end
abbrev JU:=EX→Option (Nat × EX)
section
variable{X:Cx}{K:MS}{C:xM}{W W1 W2:List Nat}{st:Na}{cf:List Na}{f:XS}{g:JU}{pos:Pos}{a:MU}{i:Nat}
end
section
variable{P:MZ}{w:MV}{K:MS}{C:xM}{mg:Str→Option Kg}{base:MY}
end
section
variable{X:Cx}{K:MS}{C:xM}{fa:XE}{fn:XN}{fs:XR}{a b:MU}{es:List MU}{pos apos p p2:Pos}{i:Nat}
end
abbrev Gr:=Ob ⊕ MT
abbrev XG:=EX→Option (List Gr × EX)
abbrev Gv:=V × List xM
def JJ(ts:List Gv)(a:xM):Prop:=∃t∈ts,a∈t.2
def HZ(K:MS)(C:xM)(F H:Hp):List Gr→List Gv→Prop
  | [],ts=>ts=[]
  | .inl o::r,ts=>∃v as s,ts=(v,as)::s∧jI K C F H o v as∧HZ K C F H r s
  | .inr d::r,ts=>∃v s,ts=(v,[])::s∧DA K F d v∧HZ K C F H r s
structure Kc (K:MS) (C:xM) (F H:Hp) (σ:L2.St) (e:En) (S:xM→Prop) (rs:List Gr) (ts:List Gv):Prop where
  at_:HZ K C F H rs ts
  no:∀a,JJ ts a→¬S a∧¬bw σ e H a
  dis:ts.Pairwise fun t s=>∀a∈t.2,a∉s.2
section
variable{X:Cx}{K:MS}{C:xM}{F H F1 H1 F2 H2:Hp}{σ:L2.St}{fa:XE}{fn:XN}{fs:XG}{a b:MU}{es:List MU}{pos apos p p2:Pos}{i:Nat}
end
end L2
namespace V87
open PySem PySem.Spec PyProof.Rows L2
variable{P:MZ}{w:MV}{K:MS}{mg:Str→Option Kg}{base:MY}{f:xM}{fd:Nj}
local macro_rules|`(tactic|trivial)=>`(tactic|first|exact .inl rfl|exact .inr rfl|assumption)
local macro_rules|`(¬$n:num)=>`(@qw _ _ $n _ _ (by rfl) (by rfl) (by decide))
local macro_rules|`($a∘$b)=>`(@IP _ _ _ _ _ _ $a $b (by rfl))
theorem nG{α:Type u}{β:Type v}{f:α→β}:Pw f []=[]:=rfl
theorem nF{α:Type u}{β:Type v}{f:α→β}{a:α}{l:List α}:Pw f (a::l)=f a::Pw f l:=rfl
theorem nA{α:Type u}{l:List α}:[]++l=l:=rfl
theorem ny{α:Type u}{a:α}{l m:List α}:(a::l)++m=a::(l++m):=rfl
theorem nD{α:Type u}{a:α}{l:List α}:(a::l)[0]?=some a:=rfl
theorem nE{α:Type u}{a:α}{l:List α}{i:Nat}:(a::l)[i+1]?=l[i]?:=rfl
theorem nB{α:Type u}{β:Type v}{a:α}{f:α→Option β}:Option.bind (some a) f=f a:=rfl
theorem nH{α:Type u}{β:Type v}{a:α}{f:α→β}:Option.map f (some a)=some (f a):=rfl
structure b5 (mg:Str→Option Kg):Prop where
  b_abs:mg "abs"=none
  b_len:mg "len"=none
  b_min:mg "min"=none
  b_max:mg "max"=none
  b_range:mg "range"=none
  b_tuple:mg "tuple"=none
  b_int:mg "int"=none
  b_sorted:mg "sorted"=none
  b_zip:mg "zip"=none
  b_enumerate:mg "enumerate"=none
  b_isinstance:mg "isinstance"=none
  b_set:mg "set"=none
  b_sum:mg "sum"=none
  b_all:mg "all"=none
  Do:mg "list"=none
  b_reversed:mg "reversed"=none
  b_str:mg "str"=none
  b_ValueError:mg "ValueError"=none
abbrev Cl(P:MZ)(w:MV)(K:MS)(mg:Str→Option Kg)(base:MY)(n:Str)(s:Na)(ps:List Str)(lv k:Nat)(m:FM):Prop:=∃f fd,dm K mg n s f fd ps∧aA P w K mg base bY lv f fd ps (di K k m)
noncomputable def l8:FS:=(bh (wD (ax dM (ax dM (ab 0) (vC (.int 1))) (ab 1)) gp (fN (vC (.int 2)))))
noncomputable def bL:FM:=h8 2 0 [] l8
theorem lq:au ["web","tie"] ["web","tie"] (ag cB):=⟨rfl,rfl,rfl,by decide+kernel,rfl,by decide+kernel,by decide+kernel⟩
theorem rq(h:dm K mg "things_of" cB f fd ["web","tie"])(T:b5 mg):aA P w K mg base bY 1 f fd ["web","tie"] (di K 2 bL):=by
  have nd:=lq.nd
  exact h.fn lq rfl rfl (fun cdv A outer s H E hr=>(@aj _ _ _ _ _ (@aw _ _ _ _ _ (@mU _ _ _ _ _ _ _ _ _ _ rfl (@ce _ _ _ _ _ _ _ rfl (@ce _ _ _ _ _ _ _ rfl (¬0) ae (fun _ _=>rfl)) (¬1) (fun _ _=>rfl)) (@iJ _ _) (@iK _ _ _ _ ae)))))
noncomputable def jM:FI:=(jK (ab 1))
noncomputable def cN:FT:=(ay (ax (uj false) (ab 0) (cR 2 bL (aa (ab 1) (aa (ab 2) ah)))))
noncomputable def cO:FE:=(ab 2)
noncomputable def l6:FS:=(bh (aB (g1 gb) (aa (dI [(2,"thing"),(0,"web")] 1 jM (am 2) cN cO) ah)))
noncomputable def eB:FM:=h8 3 0 [] l6
theorem lm:au ["web","asked","thing"] ["web","asked","thing"] (ag eF):=⟨rfl,rfl,rfl,by decide+kernel,rfl,by decide+kernel,by decide+kernel⟩
theorem rl(h:dm K mg "many_asks" eF f fd ["web","asked","thing"])(T:b5 mg)(z_things_of:Cl P w K mg base "things_of" cB ["web","tie"] 1 2 bL):aA P w K mg base bY 2 f fd ["web","asked","thing"] (di K 3 eB):=by
  obtain⟨K7,K8,Kr,KB⟩:=z_things_of
  have nd:=lm.nd
  exact h.fn lm rfl rfl (fun cdv A outer s H E hr=>(@aj _ _ _ _ _ (@aw _ _ _ _ _ (@aT _ _ _ _ _ _ _ _ _ (@b_len _ _ rfl) (by rfl) T.b_len ((@dD _ _ _ _ _ _ _ _ _ _ _ _ _ [(2,"thing"),(0,"web")] ["tie"] rfl rfl (@eL _ _ _ _ _ rfl (¬1))
        (fun C s0 H0 fp=>(@aF _ _ _ 2 _ (show Ou (["thing","web","tie"]:List Str) by decide+kernel) rfl (Or.inl rfl) (by trivial))) (fun C s0 H0 fp=>(@iM _ _ _ _ (@aI _ _ _ _ _ _ _ _ _ (@wL _ _ _ rfl hr) (¬0) (@bA _ _ _ _ _ _ _ _ _ _ _ _ _ _ _ Kr KB (hr.mono (by decide)) ((¬1)∘((¬2)∘ac)) (by rfl) (by decide) (by rfl) (by rfl)) (by with_unfolding_all rfl))))
        (fun C s0 H0 fp=>(¬2)) rfl (by rfl) (by intro _;rfl))∘ac) (by decide) (by decide) (by rfl) (by rfl)))))
noncomputable def dP:FS:=(aL (k8 (ab 1) (cK (aS (am 3) (aS (am 4) cm))))
    (bh (js (ax (uj true) (ab 2) (ab 4)) (ax CM (cR 3 eB (aa (ab 0) (aa (ab 3) (aa (ab 2) ah)))) (ax dM (ax dM (ab 0) (vC (.int 2))) (ab 2))))))
noncomputable def bD:FM:=h8 3 2 (([3]++([4]++[]))++[]) dP
theorem gu:au ["web","stand","thing","asked","taken"] ["web","stand","thing"] (ag bT):=⟨rfl,rfl,rfl,by decide+kernel,rfl,by decide+kernel,by decide+kernel⟩
theorem kO(h:dm K mg "bears_one_more" bT f fd ["web","stand","thing"])(T:b5 mg)(z_many_asks:Cl P w K mg base "many_asks" eF ["web","asked","thing"] 2 3 eB):aA P w K mg base bY 3 f fd ["web","stand","thing"] (di K 3 bD):=by
  obtain⟨L_,L',KN,Lw⟩:=z_many_asks
  have nd:=gu.nd
  exact h.fn gu rfl rfl (fun cdv A outer s H E hr=>(@af _ _ _ _ _ _ _ _ (@oB _ _ _ _ _ _ _ _ (¬1) (@gD _ _ _ _ _ _ _ _ rfl rfl (@ba _ _ _ _ _ _ _ _ (@aF _ _ _ 3 _ nd rfl (Or.inl rfl) (by trivial)) (@ba _ _ _ _ _ _ _ _ (@aF _ _ _ 4 _ nd rfl (Or.inl rfl) (by trivial)) (@el _ _) (by rfl)) (by rfl)) (bx (bx gB)) (by rfl) (by rfl)) (by rfl) (by rfl) (by rfl))
      (@aj _ _ _ _ _ (@aw _ _ _ _ _ (@zF _ _ _ _ _ _ _ _ (@mi _ _ _ _ _ _ _ _ _ (@AL _ _ _ rfl hr) (¬2) (¬4) (by with_unfolding_all rfl)) (@zI _ _ _ _ _ _ (@mi _ _ _ _ _ _ _ _ _ (@AK _ _) (@bA _ _ _ _ _ _ _ _ _ _ _ _ _ _ _ KN Lw (hr.mono (by decide)) ((¬0)∘((¬3)∘((¬2)∘ac))) (by rfl) (by decide) (by rfl) (by rfl)) (@ce _ _ _ _ _ _ _ rfl (@ce _ _ _ _ _ _ _ rfl (¬0) ae (fun _ _=>rfl)) (¬2) (fun _ _=>rfl)) (az _))))))))
noncomputable def me:FI:=(jK (cR 2 bL (aa (ab 0) (aa (ab 2) ah))))
noncomputable def jc:FE:=(cR 3 bD (aa (ab 0) (aa (ab 1) (aa (ab 2) ah))))
noncomputable def jv:FS:=(aL (bi 3 (ax dM (ab 1) (vC (.int 0))))
    (aL (iO (uf (ay (ax (uj false) (ab 2) (ab 3))) (ay (ax CJ (aB (g1 gb) (aa (ab 3) ah)) (ax dM (ab 0) (vC (.int 3))))))
    (bh (vC (.bool false)))
    cG)
    (bh (aB (g1 (jf sJ)) (aa (dI [(0,"web"),(1,"stand")] 1 me (am 2) oW jc) ah)))))
noncomputable def cD:FM:=h8 3 1 ([3]++(([]++[])++[])) jv
theorem oT:au ["web","stand","tie","asked"] ["web","stand","tie"] (ag e_):=⟨rfl,rfl,rfl,by decide+kernel,rfl,by decide+kernel,by decide+kernel⟩
theorem uT(h:dm K mg "may_ask" e_ f fd ["web","stand","tie"])(T:b5 mg)(z_bears_one_more:Cl P w K mg base "bears_one_more" bT ["web","stand","thing"] 3 3 bD)(z_things_of:Cl P w K mg base "things_of" cB ["web","tie"] 1 2 bL):aA P w K mg base bY 4 f fd ["web","stand","tie"] (di K 3 cD):=by
  obtain⟨LH,LI,Ku,K4⟩:=z_bears_one_more
  obtain⟨K7,K8,Kr,KB⟩:=z_things_of
  have nd:=oT.nd
  exact h.fn oT rfl rfl (fun cdv A outer s H E hr=>(@af _ _ _ _ _ _ _ _ (@aG _ _ _ _ _ 3 _ _ nd rfl (Or.inl rfl) (@ce _ _ _ _ _ _ _ rfl (¬1) ae (fun _ _=>rfl)) (by rfl) (by trivial))
      (@af _ _ _ _ _ _ _ _ (@ck _ _ _ _ _ _ _ _ _ _ _ (@pH _ _ _ _ (@oC _ _ _ _ _ _ _ _ (@aI _ _ _ _ _ _ _ _ _ (@wL _ _ _ rfl hr) (¬2) (¬3) (by with_unfolding_all rfl)) (@ka _ _ _ _ _ (@aI _ _ _ _ _ _ _ _ _ (@x5 _ _) (@aT _ _ _ _ _ _ _ _ _ (@b_len _ _ rfl) (by rfl) T.b_len ((¬3)∘ac) (by decide) (by decide) (by rfl) (by rfl)) (@ce _ _ _ _ _ _ _ rfl (¬0) ae (fun _ _=>rfl)) (az _)))))
      (@aj _ _ _ _ _ (@aw _ _ _ _ _ (@qh _ _ _ _ _)))
      (@a9 _ _))
      (@aj _ _ _ _ _ (@aw _ _ _ _ _ (@aT _ _ _ _ _ _ _ _ _ (@b_all _ _ _ rfl hr) (by rfl) T.b_all ((@dD _ _ _ _ _ _ _ _ _ _ _ _ _ [(0,"web"),(1,"stand")] ["thing"] rfl rfl (@eL _ _ _ _ _ rfl (@bA _ _ _ _ _ _ _ _ _ _ _ _ _ _ _ Kr KB (hr.mono (by decide)) ((¬0)∘((¬2)∘ac)) (by rfl) (by decide) (by rfl) (by rfl)))
        (fun C s0 H0 fp=>(@aF _ _ _ 2 _ (show Ou (["web","stand","thing"]:List Str) by decide+kernel) rfl (Or.inl rfl) (by trivial))) (fun C s0 H0 fp=>(@mW _ _))
        (fun C s0 H0 fp=>(@bA _ _ _ _ _ _ _ _ _ _ _ _ _ _ _ Ku K4 (hr.mono (by decide)) ((¬0)∘((¬1)∘((¬2)∘ac))) (by rfl) (by decide) (by rfl) (by rfl))) rfl (by rfl) (by intro _;rfl))∘ac) (by decide) (by decide) (by rfl) (by rfl)))))))
noncomputable def fg:FS:=(aL (k8 (ab 1) (cK (aS (am 4) (aS (am 5) cm))))
    (aL (iO (ay (ab 3))
    (bi 5 (aB (g1 dz) (aa (aB (g1 dW) (aa (ax cx (ab 5) (cR 2 bL (aa (ab 0) (aa (ab 2) ah)))) ah)) ah)))
    cG)
    (bh (cu (aa (aB (g1 dz) (aa (aB (g1 dW) (aa (ax cx (ab 4) (cu (aa (ab 2) ah))) ah)) ah)) (aa (ab 5) ah))))))
noncomputable def bG:FM:=h8 4 2 (([4]++([5]++[]))++(([5]++[])++[])) fg
theorem iV:au ["web","stand","tie","truth","asked","taken"] ["web","stand","tie","truth"] (ag cA):=⟨rfl,rfl,rfl,by decide+kernel,rfl,by decide+kernel,by decide+kernel⟩
theorem mL(h:dm K mg "stand_behind" cA f fd ["web","stand","tie","truth"])(T:b5 mg)(z_things_of:Cl P w K mg base "things_of" cB ["web","tie"] 1 2 bL):aA P w K mg base bY 2 f fd ["web","stand","tie","truth"] (di K 4 bG):=by
  obtain⟨K7,K8,Kr,KB⟩:=z_things_of
  have nd:=iV.nd
  exact h.fn iV rfl rfl (fun cdv A outer s H E hr=>(@af _ _ _ _ _ _ _ _ (@oB _ _ _ _ _ _ _ _ (¬1) (@gD _ _ _ _ _ _ _ _ rfl rfl (@ba _ _ _ _ _ _ _ _ (@aF _ _ _ 4 _ nd rfl (Or.inl rfl) (by trivial)) (@ba _ _ _ _ _ _ _ _ (@aF _ _ _ 5 _ nd rfl (Or.inl rfl) (by trivial)) (@el _ _) (by rfl)) (by rfl)) (bx (bx gB)) (by rfl) (by rfl)) (by rfl) (by rfl) (by rfl))
      (@af _ _ _ _ _ _ _ _ (@ck _ _ _ _ _ _ _ _ _ _ _ (@fU _ _ _ _ (¬3) (by intro _;rfl))
      (@aj _ _ _ _ _ (@aG _ _ _ _ _ 5 _ _ nd rfl (Or.inl rfl) (@aT _ _ _ _ _ _ _ _ _ (@b_tuple _ _ rfl) (by rfl) T.b_tuple ((@aT _ _ _ _ _ _ _ _ _ (@b_sorted _ _ rfl) (by rfl) T.b_sorted ((@cL _ _ _ _ _ _ _ rfl (¬5) (@bA _ _ _ _ _ _ _ _ _ _ _ _ _ _ _ Kr KB (hr.mono (by decide)) ((¬0)∘((¬2)∘ac)) (by rfl) (by decide) (by rfl) (by rfl)))∘ac) (by decide) (by decide) (by rfl) (by rfl))∘ac) (by decide) (by decide) (by rfl) (by rfl)) (by rfl) (by trivial)))
      (@a9 _ _))
      (@aj _ _ _ _ _ (@aw _ _ _ _ _ (@br _ _ _ _ _ _ ((@aT _ _ _ _ _ _ _ _ _ (@b_tuple _ _ rfl) (by rfl) T.b_tuple ((@aT _ _ _ _ _ _ _ _ _ (@b_sorted _ _ rfl) (by rfl) T.b_sorted ((@cL _ _ _ _ _ _ _ rfl (¬4) (@br _ _ _ _ _ _ ((¬2)∘ac)))∘ac) (by decide) (by decide) (by rfl) (by rfl))∘ac) (by decide) (by decide) (by rfl) (by rfl))∘((¬5)∘ac))))))))
noncomputable def l7:FS:=(aL (iO (uf (lW (ay (uh rh (ab 0)))) (ay (ax CK (aB (g1 lE) (aa (ab 0) ah)) (vC (.int (4))))))
    (bh (vC .none))
    cG)
    (aL (bi 1 (aB (g1 ix) (aa (ab 0) ah)))
    (bh (xP (ay (ax (bj false) (aB (g1 iC) (aa (ab 1) ah)) (ab 0))) (ab 1) (vC .none)))))
noncomputable def eC:FM:=h8 1 1 (([]++[])++([1]++[])) l7
theorem lp:au ["word","number"] ["word"] (ag eG):=⟨rfl,rfl,rfl,by decide+kernel,rfl,by decide+kernel,by decide+kernel⟩
theorem rm(h:dm K mg "number_of" eG f fd ["word"])(T:b5 mg){t_MOST_FIGURES:Tok}(m_MOST_FIGURES:mg "MOST_FIGURES"=some (.int (4) t_MOST_FIGURES)):aA P w K mg base bY 1 f fd ["word"] (di K 1 eC):=by
  have nd:=lp.nd
  exact h.fn lp rfl rfl (fun cdv A outer s H E hr=>(@af _ _ _ _ _ _ _ _ (@ck _ _ _ _ _ _ _ _ _ _ _ (@pH _ _ _ _ (@oC _ _ _ _ _ _ _ _ (@uY _ _ _ _ _ (@fU _ _ _ _ (@GV _ _ _ _ _ _ (¬0) (by rfl) (by rfl)) (by intro _;rfl))) (@ka _ _ _ _ _ (@aI _ _ _ _ _ _ _ _ _ (@x6 _ _) (@aT _ _ _ _ _ _ _ _ _ (@AI _ _) (by rfl) T.b_len ((¬0)∘ac) (by decide) (by decide) (by rfl) (by rfl)) (@vV _ _ _ (V.int (4)) _ _ (PyData.int (4)) rfl m_MOST_FIGURES ⟨_,rfl⟩ (fun _=>bO.mpr rfl) (by decide)) (az _)))))
      (@aj _ _ _ _ _ (@aw _ _ _ _ _ (@eK _ _ _ _)))
      (@a9 _ _))
      (@af _ _ _ _ _ _ _ _ (@aG _ _ _ _ _ 1 _ _ nd rfl (Or.inl rfl) (@aT _ _ _ _ _ _ _ _ _ (@vx _ _) (by rfl) T.b_int ((¬0)∘ac) (by decide) (by decide) (by rfl) (by rfl)) (by rfl) (by trivial))
      (@aj _ _ _ _ _ (@aw _ _ _ _ _ (@kY _ _ _ _ _ _ _ _ _ (@aI _ _ _ _ _ _ _ _ _ (@fj _ _ _ rfl hr) (@aT _ _ _ _ _ _ _ _ _ (@b_str _ _) (by rfl) T.b_str ((¬1)∘ac) (by decide) (by decide) (by rfl) (by rfl)) (¬0) (az _)) (¬1) (@eK _ _ _ _)))))))
noncomputable def qW:FI:=(jK (ab 0))
noncomputable def qQ:FE:=(aB (g1 iC) (aa (ab 0) ah))
noncomputable def ut:FS:=(bh (ax sN (vC (.str (" ":Str))) (dI [] 1 qW (am 0) oW qQ)))
noncomputable def fM:FM:=h8 1 0 [] ut
theorem mv:au ["row"] ["row"] (ag d9):=⟨rfl,rfl,rfl,by decide+kernel,rfl,by decide+kernel,by decide+kernel⟩
theorem tH(h:dm K mg "row_line" d9 f fd ["row"])(T:b5 mg):aA P w K mg base bY 1 f fd ["row"] (di K 1 fM):=by
  have nd:=mv.nd
  exact h.fn mv rfl rfl (fun cdv A outer s H E hr=>(@aj _ _ _ _ _ (@aw _ _ _ _ _ (@zD _ _ _ _ _ _ _ _ _ rfl (@dD _ _ _ _ _ _ _ _ _ _ _ _ _ [] ["part"] rfl rfl (@eL _ _ _ _ _ rfl (¬0))
        (fun C s0 H0 fp=>(@aF _ _ _ 0 _ (show Ou (["part"]:List Str) by decide+kernel) rfl (Or.inl rfl) (by trivial))) (fun C s0 H0 fp=>(@mW _ _))
        (fun C s0 H0 fp=>(@aT _ _ _ _ _ _ _ _ _ (@b_str _ _) (by rfl) T.b_str ((¬0)∘ac) (by decide) (by decide) (by rfl) (by rfl))) rfl (by rfl) (by intro _;rfl)) (by rfl) (by rfl) (by rfl) (by rfl) (by rfl)))))
noncomputable def sQ:FI:=(jK (ab 0))
noncomputable def sd:FT:=(ay (ab 1))
noncomputable def sG:FE:=(ab 0)
noncomputable def wK:FS:=(bh (aB (g1 dz) (aa (dI [] 2 sQ (cK (aS (am 0) (aS (am 1) cm))) sd sG) ah)))
noncomputable def gR:FM:=h8 1 0 [] wK
theorem oS:au ["run"] ["run"] (ag e8):=⟨rfl,rfl,rfl,by decide+kernel,rfl,by decide+kernel,by decide+kernel⟩
theorem uS(h:dm K mg "kept_of" e8 f fd ["run"])(T:b5 mg):aA P w K mg base bY 1 f fd ["run"] (di K 1 gR):=by
  have nd:=oS.nd
  exact h.fn oS rfl rfl (fun cdv A outer s H E hr=>(@aj _ _ _ _ _ (@aw _ _ _ _ _ (@aT _ _ _ _ _ _ _ _ _ (@b_tuple _ _ rfl) (by rfl) T.b_tuple ((@dD _ _ _ _ _ _ _ _ _ _ _ _ _ [] ["tie","truth"] rfl rfl (@eL _ _ _ _ _ rfl (¬0))
        (fun C s0 H0 fp=>(@gD _ _ _ _ _ _ _ _ rfl rfl (@ba _ _ _ _ _ _ _ _ (@aF _ _ _ 0 _ (show Ou (["tie","truth"]:List Str) by decide+kernel) rfl (Or.inl rfl) (by trivial)) (@ba _ _ _ _ _ _ _ _ (@aF _ _ _ 1 _ (show Ou (["tie","truth"]:List Str) by decide+kernel) rfl (Or.inl rfl) (by trivial)) (@el _ _) (by rfl)) (by rfl)) (bx (bx gB)) (by rfl) (by rfl))) (fun C s0 H0 fp=>(@iM _ _ _ _ (@fU _ _ _ _ (¬1) (by intro _;rfl))))
        (fun C s0 H0 fp=>(¬0)) rfl (by rfl) (by intro _;rfl))∘ac) (by decide) (by decide) (by rfl) (by rfl)))))
noncomputable def nX:FI:=(jK (cR 1 gR (aa (ab 1) ah)))
noncomputable def nv:FE:=(ax dM (ax dM (ax dM (ab 0) (vC (.int 1))) (ab 1)) (vC (.int 3)))
noncomputable def qF:FS:=(bh (aB (g1 (jf vI)) (aa (dI [(0,"web")] 1 nX (am 1) oW nv) ah)))
noncomputable def iF:FM:=h8 2 0 [] qF
theorem jR:au ["web","run"] ["web","run"] (ag dH):=⟨rfl,rfl,rfl,by decide+kernel,rfl,by decide+kernel,by decide+kernel⟩
theorem pG(h:dm K mg "worth_kept" dH f fd ["web","run"])(T:b5 mg)(z_kept_of:Cl P w K mg base "kept_of" e8 ["run"] 1 1 gR):aA P w K mg base bY 2 f fd ["web","run"] (di K 2 iF):=by
  obtain⟨LJ,LK,KI,K9⟩:=z_kept_of
  have nd:=jR.nd
  exact h.fn jR rfl rfl (fun cdv A outer s H E hr=>(@aj _ _ _ _ _ (@aw _ _ _ _ _ (@aT _ _ _ _ _ _ _ _ _ (@b_sum _ _ _ rfl hr) (by rfl) T.b_sum ((@dD _ _ _ _ _ _ _ _ _ _ _ _ _ [(0,"web")] ["tie"] rfl rfl (@eL _ _ _ _ _ rfl (@bA _ _ _ _ _ _ _ _ _ _ _ _ _ _ _ KI K9 (hr.mono (by decide)) ((¬1)∘ac) (by rfl) (by decide) (by rfl) (by rfl)))
        (fun C s0 H0 fp=>(@aF _ _ _ 1 _ (show Ou (["web","tie"]:List Str) by decide+kernel) rfl (Or.inl rfl) (by trivial))) (fun C s0 H0 fp=>(@mW _ _))
        (fun C s0 H0 fp=>(@ce _ _ _ _ _ _ _ rfl (@ce _ _ _ _ _ _ _ rfl (@ce _ _ _ _ _ _ _ rfl (¬0) ae (fun _ _=>rfl)) (¬1) (fun _ _=>rfl)) ae (fun _ _=>rfl))) rfl (by rfl) (by intro _;rfl))∘ac) (by decide) (by decide) (by rfl) (by rfl)))))
noncomputable def sP:FI:=(cV (aa (aB (g1 gb) (aa (ax dM (ab 0) (vC (.int 1))) ah)) ah))
noncomputable def r_:FT:=(ay (cR 3 cD (aa (ab 0) (aa (ab 1) (aa (ab 2) ah)))))
noncomputable def sE:FE:=(ab 2)
noncomputable def wJ:FS:=(bh (dI [(0,"web"),(1,"stand")] 1 sP (am 2) r_ sE))
noncomputable def lJ:FM:=h8 2 0 [] wJ
theorem oR:au ["web","stand"] ["web","stand"] (ag g_):=⟨rfl,rfl,rfl,by decide+kernel,rfl,by decide+kernel,by decide+kernel⟩
theorem uR(h:dm K mg "asks_at" g_ f fd ["web","stand"])(T:b5 mg)(z_may_ask:Cl P w K mg base "may_ask" e_ ["web","stand","tie"] 4 3 cD):aA P w K mg base bY 5 f fd ["web","stand"] (di K 2 lJ):=by
  obtain⟨K_,K',KC,KJ⟩:=z_may_ask
  have nd:=oR.nd
  exact h.fn oR rfl rfl (fun cdv A outer s H E hr=>(@aj _ _ _ _ _ (@aw _ _ _ _ _ (@dD _ _ _ _ _ _ _ _ _ _ _ _ _ [(0,"web"),(1,"stand")] ["tie"] rfl rfl (@dg _ _ _ _ _ _ _ rfl T.b_range ((@aT _ _ _ _ _ _ _ _ _ (@b_len _ _ rfl) (by rfl) T.b_len ((@ce _ _ _ _ _ _ _ rfl (¬0) ae (fun _ _=>rfl))∘ac) (by decide) (by decide) (by rfl) (by rfl))∘ac) (by rfl))
        (fun C s0 H0 fp=>(@aF _ _ _ 2 _ (show Ou (["web","stand","tie"]:List Str) by decide+kernel) rfl (Or.inl rfl) (by trivial))) (fun C s0 H0 fp=>(@iM _ _ _ _ (@fU _ _ _ _ (@bA _ _ _ _ _ _ _ _ _ _ _ _ _ _ _ KC KJ (hr.mono (by decide)) ((¬0)∘((¬1)∘((¬2)∘ac))) (by rfl) (by decide) (by rfl) (by rfl)) (by intro _;rfl))))
        (fun C s0 H0 fp=>(¬2)) rfl (by rfl) (by intro _;rfl)))))
noncomputable def gP:FI:=(jK (ab 1))
noncomputable def gK:FS:=(bi 2 (cR 4 bG (aa (ab 0) (aa (ab 2) (aa (ab 3) (aa (ab 4) ah))))))
noncomputable def i9:FS:=(aL (bi 2 (vC (.tuple [.tuple [],.tuple []])))
    (aL (gE (([3]++([4]++[]))++[2]) gP (cK (aS (am 3) (aS (am 4) cm))) gK)
    (bh (ab 2))))
noncomputable def bH:FM:=h8 2 3 ([2]++((([3]++([4]++[]))++[2])++[])) i9
theorem iW:au ["web","run","stand","tie","truth"] ["web","run"] (ag bU):=⟨rfl,rfl,rfl,by decide+kernel,rfl,by decide+kernel,by decide+kernel⟩
theorem mM(h:dm K mg "stand_of_run" bU f fd ["web","run"])(T:b5 mg)(z_stand_behind:Cl P w K mg base "stand_behind" cA ["web","stand","tie","truth"] 2 4 bG){g_FIRST_STAND:xM}(m_FIRST_STAND:mg "FIRST_STAND"=some (.ref g_FIRST_STAND))(c_FIRST_STAND:∀F,DA K F (.tuple [.tuple [],.tuple []]) (.ref g_FIRST_STAND)):aA P w K mg base bY 3 f fd ["web","run"] (di K 2 bH):=by
  obtain⟨LU,LV,Kw,Le⟩:=z_stand_behind
  have nd:=iW.nd
  exact h.fn iW rfl rfl (fun cdv A outer s H E hr=>(@af _ _ _ _ _ _ _ _ (@aG _ _ _ _ _ 2 _ _ nd rfl (Or.inl rfl) (@vV _ _ _ (V.ref g_FIRST_STAND) _ _ (PyData.tuple [.tuple [],.tuple []]) rfl m_FIRST_STAND rfl c_FIRST_STAND (by decide)) (by rfl) (by trivial))
      (@af _ _ _ _ _ _ _ _ (@j_ _ _ _ _ _ _ _ _ _ _ _ OK rfl (@eL _ _ _ _ _ rfl (¬1)) (@gD _ _ _ _ _ _ _ _ rfl rfl (@ba _ _ _ _ _ _ _ _ (@aF _ _ _ 3 _ nd rfl (Or.inl rfl) (by trivial)) (@ba _ _ _ _ _ _ _ _ (@aF _ _ _ 4 _ nd rfl (Or.inl rfl) (by trivial)) (@el _ _) (by rfl)) (by rfl)) (bx (bx gB)) (by rfl) (by rfl))
      (@aj _ _ _ _ _ (@aG _ _ _ _ _ 2 _ _ nd rfl (Or.inl rfl) (@bA _ _ _ _ _ _ _ _ _ _ _ _ _ _ _ Kw Le (hr.mono (by decide)) ((¬0)∘((¬2)∘((¬3)∘((¬4)∘ac)))) (by rfl) (by decide) (by rfl) (by rfl)) (by rfl) (by trivial))) (by intro _;rfl))
      (@aj _ _ _ _ _ (@aw _ _ _ _ _ (¬2))))))
noncomputable def ur:FS:=(aL (bi 2 (cR 2 lJ (aa (ab 0) (aa (cR 2 bH (aa (ab 0) (aa (ab 1) ah))) ah))))
    (bh (xP (ay (ax CK (aB (g1 gb) (aa (ab 2) ah)) (vC (.int 0)))) (cR 1 fM (aa (ab 2) ah)) (vC (.str ("none":Str))))))
noncomputable def j6:FM:=h8 2 1 ([2]++[]) ur
theorem mr:au ["web","run","ties"] ["web","run"] (ag fZ):=⟨rfl,rfl,rfl,by decide+kernel,rfl,by decide+kernel,by decide+kernel⟩
theorem tG(h:dm K mg "may_line" fZ f fd ["web","run"])(T:b5 mg)(z_asks_at:Cl P w K mg base "asks_at" g_ ["web","stand"] 5 2 lJ)(z_stand_of_run:Cl P w K mg base "stand_of_run" bU ["web","run"] 3 2 bH)(z_row_line:Cl P w K mg base "row_line" d9 ["row"] 1 1 fM):aA P w K mg base bY 6 f fd ["web","run"] (di K 2 j6):=by
  obtain⟨Mh,Mi,KY,LL⟩:=z_asks_at
  obtain⟨KG,KH,Kp,Kq⟩:=z_stand_of_run
  obtain⟨LD,LF,Ky,K1⟩:=z_row_line
  have nd:=mr.nd
  exact h.fn mr rfl rfl (fun cdv A outer s H E hr=>(@af _ _ _ _ _ _ _ _ (@aG _ _ _ _ _ 2 _ _ nd rfl (Or.inl rfl) (@bA _ _ _ _ _ _ _ _ _ _ _ _ _ _ _ KY LL (hr.mono (by decide)) ((¬0)∘((@bA _ _ _ _ _ _ _ _ _ _ _ _ _ _ _ Kp Kq (hr.mono (by decide)) ((¬0)∘((¬1)∘ac)) (by rfl) (by decide) (by rfl) (by rfl))∘ac)) (by rfl) (by decide) (by rfl) (by rfl)) (by rfl) (by trivial))
      (@aj _ _ _ _ _ (@aw _ _ _ _ _ (@kY _ _ _ _ _ _ _ _ _ (@aI _ _ _ _ _ _ _ _ _ (@x6 _ _) (@aT _ _ _ _ _ _ _ _ _ (@b_len _ _ rfl) (by rfl) T.b_len ((¬2)∘ac) (by decide) (by decide) (by rfl) (by rfl)) ae (az _)) (@bA _ _ _ _ _ _ _ _ _ _ _ _ _ _ _ Ky K1 (hr.mono (by decide)) ((¬2)∘ac) (by rfl) (by decide) (by rfl) (by rfl)) (@aJ _ _ _ _ _))))))
noncomputable def r8:FS:=(aL (bi 2 (cR 1 gR (aa (ab 1) ah)))
    (bh (cR 1 fM (aa (ax cx (xP (ay (ax CK (aB (g1 gb) (aa (ab 2) ah)) (vC (.int 0)))) (ab 2) (cu (aa (vC (.str ("none":Str))) ah))) (cu (aa (cR 2 iF (aa (ab 0) (aa (ab 1) ah))) ah))) ah))))
noncomputable def jj:FM:=h8 2 1 ([2]++[]) r8
theorem lh:au ["web","run","kept"] ["web","run"] (ag eE):=⟨rfl,rfl,rfl,by decide+kernel,rfl,by decide+kernel,by decide+kernel⟩
theorem rk(h:dm K mg "kept_line" eE f fd ["web","run"])(T:b5 mg)(z_kept_of:Cl P w K mg base "kept_of" e8 ["run"] 1 1 gR)(z_row_line:Cl P w K mg base "row_line" d9 ["row"] 1 1 fM)(z_worth_kept:Cl P w K mg base "worth_kept" dH ["web","run"] 2 2 iF):aA P w K mg base bY 3 f fd ["web","run"] (di K 2 jj):=by
  obtain⟨LJ,LK,KI,K9⟩:=z_kept_of
  obtain⟨LD,LF,Ky,K1⟩:=z_row_line
  obtain⟨L1,L3,KD,Lo⟩:=z_worth_kept
  have nd:=lh.nd
  exact h.fn lh rfl rfl (fun cdv A outer s H E hr=>(@af _ _ _ _ _ _ _ _ (@aG _ _ _ _ _ 2 _ _ nd rfl (Or.inl rfl) (@bA _ _ _ _ _ _ _ _ _ _ _ _ _ _ _ KI K9 (hr.mono (by decide)) ((¬1)∘ac) (by rfl) (by decide) (by rfl) (by rfl)) (by rfl) (by trivial))
      (@aj _ _ _ _ _ (@aw _ _ _ _ _ (@bA _ _ _ _ _ _ _ _ _ _ _ _ _ _ _ Ky K1 (hr.mono (by decide)) ((@cL _ _ _ _ _ _ _ rfl (@kY _ _ _ _ _ _ _ _ _ (@aI _ _ _ _ _ _ _ _ _ (@x6 _ _) (@aT _ _ _ _ _ _ _ _ _ (@b_len _ _ rfl) (by rfl) T.b_len ((¬2)∘ac) (by decide) (by decide) (by rfl) (by rfl)) ae (az _)) (¬2) (@br _ _ _ _ _ _ ((@aJ _ _ _ _ _)∘ac))) (@br _ _ _ _ _ _ ((@bA _ _ _ _ _ _ _ _ _ _ _ _ _ _ _ KD Lo (hr.mono (by decide)) ((¬0)∘((¬1)∘ac)) (by rfl) (by decide) (by rfl) (by rfl))∘ac)))∘ac) (by rfl) (by decide) (by rfl) (by rfl))))))
noncomputable def kj:FS:=(aL (bi 2 (ax ji (ab 1) (vC (.str (" ":Str)))))
    (aL (iO (uf (ay (ax (bj true) (aB (g1 gb) (aa (ab 2) ah)) (vC (.int 2)))) (ay (ax (bj true) (ax dM (ab 2) (vC (.int 0))) (vC (.str ("ask":Str))))))
    (bh (vC .none))
    cG)
    (aL (bi 3 (cR 1 eC (aa (ax dM (ab 2) (vC (.int 1))) ah)))
    (bh (xP (lU (ay (ax j1 (ab 3) (vC .none))) (ay (ax CM (ab 3) (aB (g1 gb) (aa (ax dM (ab 0) (vC (.int 1))) ah))))) (ab 3) (vC .none))))))
noncomputable def dB:FM:=h8 2 2 ([2]++(([]++[])++([3]++[]))) kj
theorem jQ:au ["web","line","words","tie"] ["web","line"] (ag dG):=⟨rfl,rfl,rfl,by decide+kernel,rfl,by decide+kernel,by decide+kernel⟩
theorem pF(h:dm K mg "tie_to_ask" dG f fd ["web","line"])(T:b5 mg)(z_number_of:Cl P w K mg base "number_of" eG ["word"] 1 1 eC):aA P w K mg base bY 2 f fd ["web","line"] (di K 2 dB):=by
  obtain⟨Ma,Mb,KO,Lx⟩:=z_number_of
  have nd:=jQ.nd
  exact h.fn jQ rfl rfl (fun cdv A outer s H E hr=>(@af _ _ _ _ _ _ _ _ (@aG _ _ _ _ _ 2 _ _ nd rfl (Or.inl rfl) (@B0 _ _ _ _ _ _ _ _ (¬1) (@aJ _ _ _ _ _) (by rfl) (by rfl) (by rfl) (by rfl) (by rfl)) (by rfl) (by trivial))
      (@af _ _ _ _ _ _ _ _ (@ck _ _ _ _ _ _ _ _ _ _ _ (@pH _ _ _ _ (@oC _ _ _ _ _ _ _ _ (@aI _ _ _ _ _ _ _ _ _ (@x8 _ _ _ rfl hr) (@aT _ _ _ _ _ _ _ _ _ (@b_len _ _ rfl) (by rfl) T.b_len ((¬2)∘ac) (by decide) (by decide) (by rfl) (by rfl)) ae (az _)) (@ka _ _ _ _ _ (@aI _ _ _ _ _ _ _ _ _ (@x8 _ _ _ rfl hr) (@ce _ _ _ _ _ _ _ rfl (¬2) ae (fun _ _=>rfl)) (@aJ _ _ _ _ _) (az _)))))
      (@aj _ _ _ _ _ (@aw _ _ _ _ _ (@eK _ _ _ _)))
      (@a9 _ _))
      (@af _ _ _ _ _ _ _ _ (@aG _ _ _ _ _ 3 _ _ nd rfl (Or.inl rfl) (@bA _ _ _ _ _ _ _ _ _ _ _ _ _ _ _ KO Lx (hr.mono (by decide)) ((@ce _ _ _ _ _ _ _ rfl (¬2) ae (fun _ _=>rfl))∘ac) (by rfl) (by decide) (by rfl) (by rfl)) (by rfl) (by trivial))
      (@aj _ _ _ _ _ (@aw _ _ _ _ _ (@kY _ _ _ _ _ _ _ _ _ (@pH _ _ _ _ (@uZ _ _ _ _ _ _ _ _ (@aI _ _ _ _ _ _ _ _ _ (@qI _ _) (¬3) (@eK _ _ _ _) (az _)) (@rK _ _ _ _ _ (@aI _ _ _ _ _ _ _ _ _ (@AK _ _) (¬3) (@aT _ _ _ _ _ _ _ _ _ (@b_len _ _ rfl) (by rfl) T.b_len ((@ce _ _ _ _ _ _ _ rfl (¬0) ae (fun _ _=>rfl))∘ac) (by decide) (by decide) (by rfl) (by rfl)) (az _))))) (¬3) (@eK _ _ _ _))))))))
noncomputable def vt:FS:=(aL (bi 2 (ax bu (ax cx (ax cx (ax nP (ax bu (ab 0) (vC (.int 2147483647))) (vC (.int 48271))) (ax nP (ax nP (vC (.int 7919)) (ab 1)) (ab 1))) (vC (.int 104729))) (vC (.int 2147483647))))
    (bh (ax bu (ax nP (ab 2) (ab 2)) (vC (.int 2147483629)))))
noncomputable def jF:FM:=h8 2 1 ([2]++[]) vt
theorem tW:au ["_law_cell","_law_k","_law_number"] ["_law_cell","_law_k"] (ag k_):=⟨rfl,rfl,rfl,by decide+kernel,rfl,by decide+kernel,by decide+kernel⟩
theorem y6(h:dm K mg "_law_mixed" k_ f fd ["_law_cell","_law_k"])(T:b5 mg):aA P w K mg base bY 1 f fd ["_law_cell","_law_k"] (di K 2 jF):=by
  have nd:=tW.nd
  exact h.fn tW rfl rfl (fun cdv A outer s H E hr=>(@af _ _ _ _ _ _ _ _ (@aG _ _ _ _ _ 2 _ _ nd rfl (Or.inl rfl) (@bo _ _ _ _ _ _ _ (@cL _ _ _ _ _ _ _ rfl (@cL _ _ _ _ _ _ _ rfl (@qf _ _ _ _ _ _ _ rfl (@bo _ _ _ _ _ _ _ (¬0) ae) ae) (@qf _ _ _ _ _ _ _ rfl (@qf _ _ _ _ _ _ _ rfl ae (¬1)) (¬1))) ae) ae) (by rfl) (by trivial))
      (@aj _ _ _ _ _ (@aw _ _ _ _ _ (@bo _ _ _ _ _ _ _ (@qf _ _ _ _ _ _ _ rfl (¬2) (¬2)) ae)))))
noncomputable def eX:FT:=(lU (ay (ax CJ (ab 3) (ax uB (vC (.int 10)) (vC (.int 18))))) (ay (ax CM (aB (g1 gb) (aa (ab 1) ah)) (vC (.int 900)))))
noncomputable def jt:FS:=(aL (eD (b7 bK (ab 1) (aa (ax bu (ab 3) (vC (.int 2147483629))) ah)))
    (bi 3 (ax fx (ab 3) (vC (.int 2147483629)))))
noncomputable def jA:FI:=(cV (aa (vC (.int 12)) ah))
noncomputable def gH:FS:=(eD (b7 bK (ab 1) (aa (cR 2 jF (aa (cR 2 jF (aa (ab 3) (aa (ax cx (ax nP (vC (.int 3)) (ab 4)) (vC (.int 1))) ah))) (aa (ax cx (ax cx (ab 4) (ab 2)) (vC (.int 2))) ah))) ah)))
noncomputable def lG:FI:=(cV (aa (aB (g2 yo) (aa (aB (g1 gb) (aa (ab 0) ah)) (aa (vC (.int 63)) ah))) ah))
noncomputable def eV:FS:=(aL (bi 3 (aB (g1 wY) (aa (ax dM (ab 0) (ab 2)) ah)))
    (aL (iO (ay (ax CM (ab 3) (ax uB (vC (.int 10)) (vC (.int 18)))))
    (gE ([4]++[]) jA (am 4) gH)
    cG)
    (aL (oN (2 ^ 4200) eX jt)
    (iO (ay (ax CJ (ab 3) (vC (.int 2147483629))))
    (eD (b7 bK (ab 1) (aa (ax bu (ab 3) (vC (.int 2147483629))) ah)))
    cG))))
noncomputable def vq:FS:=(aL (bi 1 (d_ ah))
    (aL (gE ([2]++([3]++((([4]++[])++[])++(([]++[3])++([]++[]))))) lG (am 2) eV)
    (bh (ab 1))))
noncomputable def jE:FM:=h8 1 4 ([1]++(([2]++([3]++((([4]++[])++[])++(([]++[3])++([]++[])))))++[])) vq
theorem tV:au ["_law_script","_law_drawn","_law_k","_law_cell","_law_j"] ["_law_script"] (ag k9):=⟨rfl,rfl,rfl,by decide+kernel,rfl,by decide+kernel,by decide+kernel⟩
theorem y4(h:dm K mg "_law_draws" k9 f fd ["_law_script"])(T:b5 mg)(zLmixed:Cl P w K mg base "_law_mixed" k_ ["_law_cell","_law_k"] 1 2 jF):aA P w K mg base bY 2 f fd ["_law_script"] (di K 1 jE):=by
  obtain⟨Mw,Mx,La,LM⟩:=zLmixed
  have nd:=tV.nd
  exact h.fn tV rfl rfl (fun cdv A outer s H E hr=>(@af _ _ _ _ _ _ _ _ (@aG _ _ _ _ _ 1 _ _ nd rfl (Or.inl rfl) (@cz _ _ _ _ _ ac) (by rfl) (by trivial))
      (@af _ _ _ _ _ _ _ _ (@j_ _ _ _ _ _ _ _ _ _ _ _ OK rfl (@dg _ _ _ _ _ _ _ rfl T.b_range ((@aT _ _ _ _ _ _ _ _ _ (@b_min _ _ rfl) (by rfl) T.b_min ((@aT _ _ _ _ _ _ _ _ _ (@b_len _ _ rfl) (by rfl) T.b_len ((¬0)∘ac) (by decide) (by decide) (by rfl) (by rfl))∘(ae∘ac)) (by decide) (by decide) (by rfl) (by rfl))∘ac) (by rfl)) (@aF _ _ _ 2 _ nd rfl (Or.inl rfl) (by trivial))
      (@af _ _ _ _ _ _ _ _ (@aG _ _ _ _ _ 3 _ _ nd rfl (Or.inl rfl) (@aT _ _ _ _ _ _ _ _ _ (@b_abs _ _) (by rfl) T.b_abs ((@ce _ _ _ _ _ _ _ rfl (¬0) (¬2) (fun _ _=>rfl))∘ac) (by decide) (by decide) (by rfl) (by rfl)) (by rfl) (by trivial))
      (@af _ _ _ _ _ _ _ _ (@ck _ _ _ _ _ _ _ _ _ _ _ (@aI _ _ _ _ _ _ _ _ _ (@AK _ _) (¬3) (@C2 _ _ _ _ _ _ _ ae ae) (az _))
      (@aj _ _ _ _ _ (@j_ _ _ _ _ _ _ _ _ _ _ _ OK rfl (@dg _ _ _ _ _ _ _ rfl T.b_range (ae∘ac) (by rfl)) (@aF _ _ _ 4 _ nd rfl (Or.inl rfl) (by trivial))
      (@aj _ _ _ _ _ (@eU _ _ _ _ _ (@fQ _ _ _ _ _ _ _ _ _ rfl (¬1) ((@bA _ _ _ _ _ _ _ _ _ _ _ _ _ _ _ La LM (hr.mono (by decide)) ((@bA _ _ _ _ _ _ _ _ _ _ _ _ _ _ _ La LM (hr.mono (by decide)) ((¬3)∘((@cL _ _ _ _ _ _ _ rfl (@qf _ _ _ _ _ _ _ rfl ae (¬4)) ae)∘ac)) (by rfl) (by decide) (by rfl) (by rfl))∘((@cL _ _ _ _ _ _ _ rfl (@cL _ _ _ _ _ _ _ rfl (¬4) (¬2)) ae)∘ac)) (by rfl) (by decide) (by rfl) (by rfl))∘ac) (by rfl) (by rfl) (by rfl) (by rfl) (by rfl)) (by rfl))) (by intro _;rfl)))
      (@a9 _ _))
      (@af _ _ _ _ _ _ _ _ (@tP _ _ _ _ _ _ _ _ _ OK (@pH _ _ _ _ (@uZ _ _ _ _ _ _ _ _ (@aI _ _ _ _ _ _ _ _ _ (@x5 _ _) (¬3) (@C2 _ _ _ _ _ _ _ ae ae) (az _)) (@rK _ _ _ _ _ (@aI _ _ _ _ _ _ _ _ _ (@AK _ _) (@aT _ _ _ _ _ _ _ _ _ (@b_len _ _ rfl) (by rfl) T.b_len ((¬1)∘ac) (by decide) (by decide) (by rfl) (by rfl)) ae (az _)))))
      (@af _ _ _ _ _ _ _ _ (@eU _ _ _ _ _ (@fQ _ _ _ _ _ _ _ _ _ rfl (¬1) ((@bo _ _ _ _ _ _ _ (¬3) ae)∘ac) (by rfl) (by rfl) (by rfl) (by rfl) (by rfl)) (by rfl))
      (@aj _ _ _ _ _ (@aG _ _ _ _ _ 3 _ _ nd rfl (Or.inl rfl) (@jn _ _ _ _ _ _ _ (¬3) ae) (by rfl) (by trivial)))))
      (@aj _ _ _ _ _ (@ck _ _ _ _ _ _ _ _ _ _ _ (@aI _ _ _ _ _ _ _ _ _ (@x5 _ _) (¬3) ae (az _))
      (@aj _ _ _ _ _ (@eU _ _ _ _ _ (@fQ _ _ _ _ _ _ _ _ _ rfl (¬1) ((@bo _ _ _ _ _ _ _ (¬3) ae)∘ac) (by rfl) (by rfl) (by rfl) (by rfl) (by rfl)) (by rfl)))
      (@a9 _ _)))))) (by intro _;rfl))
      (@aj _ _ _ _ _ (@aw _ _ _ _ _ (¬1))))))
noncomputable def uo:FS:=(aL (iO (ay (ax (bj false) (ab 0) (d_ ah)))
    (bh (vC (.int 0)))
    cG)
    (bh (b7 fL (ab 0) (aa (vC (.int 0)) ah))))
noncomputable def bz:FM:=h8 1 0 (([]++[])++[]) uo
theorem wq:au ["_law_drawn"] ["_law_drawn"] (ag jq):=⟨rfl,rfl,rfl,by decide+kernel,rfl,by decide+kernel,by decide+kernel⟩
theorem Bu(h:dm K mg "_law_next" jq f fd ["_law_drawn"])(T:b5 mg):aA P w K mg base bY 1 f fd ["_law_drawn"] (di K 1 bz):=by
  have nd:=wq.nd
  exact h.fn wq rfl rfl (fun cdv A outer s H E hr=>(@af _ _ _ _ _ _ _ _ (@ck _ _ _ _ _ _ _ _ _ _ _ (@aI _ _ _ _ _ _ _ _ _ (@fj _ _ _ rfl hr) (¬0) (@cz _ _ _ _ _ ac) (az _))
      (@aj _ _ _ _ _ (@aw _ _ _ _ _ ae))
      (@a9 _ _))
      (@aj _ _ _ _ _ (@aw _ _ _ _ _ (@BZ _ _ _ _ _ _ _ _ _ rfl (¬0) (ae∘ac) (by rfl) (by rfl) (by rfl) (by rfl) (by rfl))))))
noncomputable def kn:FT:=(ay (ax (bj true) (ab 1) (vC (.int 0))))
noncomputable def mP:FS:=(pJ 0 1 (aa (ab 1) (aa (ax bu (ab 0) (ab 1)) ah)))
noncomputable def Cz:FS:=(aL (oN (2 ^ 4200) kn mP)
    (bh (aB (g1 wY) (aa (ab 0) ah))))
noncomputable def sY:FM:=h8 2 0 ([0,1]++[]) Cz
theorem z4:au ["_law_one","_law_other"] ["_law_one","_law_other"] (ag tR):=⟨rfl,rfl,rfl,by decide+kernel,rfl,by decide+kernel,by decide+kernel⟩
theorem Ej(h:dm K mg "_law_gcd" tR f fd ["_law_one","_law_other"])(T:b5 mg):aA P w K mg base bY 1 f fd ["_law_one","_law_other"] (di K 2 sY):=by
  have nd:=z4.nd
  exact h.fn z4 rfl rfl (fun cdv A outer s H E hr=>(@af _ _ _ _ _ _ _ _ (@tP _ _ _ _ _ _ _ _ _ OK (@aI _ _ _ _ _ _ _ _ _ (@x8 _ _ _ rfl hr) (¬1) ae (az _))
      (@aj _ _ _ _ _ (@EY _ _ _ _ _ 0 1 _ _ _ _ _ _ _ _ _ rfl nd rfl rfl (by decide) rfl rfl ((¬1)∘((@bo _ _ _ _ _ _ _ (¬0) (¬1))∘ac)) (by rfl) (by rfl))))
      (@aj _ _ _ _ _ (@aw _ _ _ _ _ (@aT _ _ _ _ _ _ _ _ _ (@b_abs _ _) (by rfl) T.b_abs ((¬0)∘ac) (by decide) (by decide) (by rfl) (by rfl))))))
noncomputable def CA:FS:=(aL (bi 2 (cR 2 sY (aa (ab 0) (aa (ab 1) ah))))
    (bh (cu (aa (ax fx (ab 0) (ab 2)) (aa (ax fx (ab 1) (ab 2)) ah)))))
noncomputable def p9:FM:=h8 2 1 ([2]++[]) CA
theorem z5:au ["_law_top","_law_bottom","_law_common"] ["_law_top","_law_bottom"] (ag tS):=⟨rfl,rfl,rfl,by decide+kernel,rfl,by decide+kernel,by decide+kernel⟩
theorem Ek(h:dm K mg "_law_low" tS f fd ["_law_top","_law_bottom"])(T:b5 mg)(zLgcd:Cl P w K mg base "_law_gcd" tR ["_law_one","_law_other"] 1 2 sY):aA P w K mg base bY 2 f fd ["_law_top","_law_bottom"] (di K 2 p9):=by
  obtain⟨MF,MG,LW,My⟩:=zLgcd
  have nd:=z5.nd
  exact h.fn z5 rfl rfl (fun cdv A outer s H E hr=>(@af _ _ _ _ _ _ _ _ (@aG _ _ _ _ _ 2 _ _ nd rfl (Or.inl rfl) (@bA _ _ _ _ _ _ _ _ _ _ _ _ _ _ _ LW My (hr.mono (by decide)) ((¬0)∘((¬1)∘ac)) (by rfl) (by decide) (by rfl) (by rfl)) (by rfl) (by trivial))
      (@aj _ _ _ _ _ (@aw _ _ _ _ _ (@br _ _ _ _ _ _ ((@jn _ _ _ _ _ _ _ (¬0) (¬2))∘((@jn _ _ _ _ _ _ _ (¬1) (¬2))∘ac)))))))
noncomputable def i8:FS:=(aL (iO (ay (ax (bj false) (ab 1) (vC (.int 0))))
    (bh (ax dM (d_ (aa (cu (aa (vC (.int 1)) (aa (vC (.int 2)) ah))) (aa (cu (aa (vC (.int 1)) (aa (vC (.int 3)) ah))) (aa (cu (aa (vC (.int 2)) (aa (vC (.int 3)) ah))) (aa (cu (aa (vC (.int 1)) (aa (vC (.int 1)) ah))) (aa (cu (aa (vC (.int 0)) (aa (vC (.int 1)) ah))) (aa (cu (aa (vC (.int 3)) (aa (vC (.int 4)) ah))) ah))))))) (ax bu (ab 0) (vC (.int 6)))))
    cG)
    (aL (iO (ay (ax (bj false) (ab 1) (vC (.int 1))))
    (aL (bi 2 (ax cx (vC (.int 2)) (ax bu (ab 0) (vC (.int 9)))))
    (bh (cR 2 p9 (aa (ax cx (vC (.int 1)) (ax bu (ax fx (ab 0) (vC (.int 9))) (ax lF (ab 2) (vC (.int 1))))) (aa (ab 2) ah)))))
    cG)
    (aL (iO (ay (ax (bj false) (ab 1) (vC (.int 2))))
    (aL (bi 2 (ax cx (vC (.int 1)) (ax bu (ab 0) (vC (.int 100)))))
    (bh (cR 2 p9 (aa (ax bu (ax fx (ab 0) (vC (.int 100))) (ax cx (ab 2) (vC (.int 1)))) (aa (ab 2) ah)))))
    cG)
    (bh (cu (aa (vC (.int 1)) (aa (vC (.int 1)) ah)))))))
noncomputable def eA:FM:=h8 2 1 (([]++[])++((([2]++[])++[])++((([2]++[])++[])++[]))) i8
theorem qk:au ["_law_number","_law_kind","_law_bottom"] ["_law_number","_law_kind"] (ag jp):=⟨rfl,rfl,rfl,by decide+kernel,rfl,by decide+kernel,by decide+kernel⟩
theorem xr(h:dm K mg "_law_chance" jp f fd ["_law_number","_law_kind"])(T:b5 mg)(zLlow:Cl P w K mg base "_law_low" tS ["_law_top","_law_bottom"] 2 2 p9):aA P w K mg base bY 3 f fd ["_law_number","_law_kind"] (di K 2 eA):=by
  obtain⟨MH,MI,LN,Mj⟩:=zLlow
  have nd:=qk.nd
  exact h.fn qk rfl rfl (fun cdv A outer s H E hr=>(@af _ _ _ _ _ _ _ _ (@ck _ _ _ _ _ _ _ _ _ _ _ (@aI _ _ _ _ _ _ _ _ _ (@fj _ _ _ rfl hr) (¬1) ae (az _))
      (@aj _ _ _ _ _ (@aw _ _ _ _ _ (@ce _ _ _ _ _ _ _ rfl (@cz _ _ _ _ _ ((@br _ _ _ _ _ _ (ae∘(ae∘ac)))∘((@br _ _ _ _ _ _ (ae∘(ae∘ac)))∘((@br _ _ _ _ _ _ (ae∘(ae∘ac)))∘((@br _ _ _ _ _ _ (ae∘(ae∘ac)))∘((@br _ _ _ _ _ _ (ae∘(ae∘ac)))∘((@br _ _ _ _ _ _ (ae∘(ae∘ac)))∘ac))))))) (@bo _ _ _ _ _ _ _ (¬0) ae) (fun _ _=>rfl))))
      (@a9 _ _))
      (@af _ _ _ _ _ _ _ _ (@ck _ _ _ _ _ _ _ _ _ _ _ (@aI _ _ _ _ _ _ _ _ _ (@fj _ _ _ rfl hr) (¬1) ae (az _))
      (@af _ _ _ _ _ _ _ _ (@aG _ _ _ _ _ 2 _ _ nd rfl (Or.inl rfl) (@cL _ _ _ _ _ _ _ rfl ae (@bo _ _ _ _ _ _ _ (¬0) ae)) (by rfl) (by trivial))
      (@aj _ _ _ _ _ (@aw _ _ _ _ _ (@bA _ _ _ _ _ _ _ _ _ _ _ _ _ _ _ LN Mj (hr.mono (by decide)) ((@cL _ _ _ _ _ _ _ rfl ae (@bo _ _ _ _ _ _ _ (@jn _ _ _ _ _ _ _ (¬0) ae) (@zE _ _ _ _ _ _ _ (¬2) ae)))∘((¬2)∘ac)) (by rfl) (by decide) (by rfl) (by rfl)))))
      (@a9 _ _))
      (@af _ _ _ _ _ _ _ _ (@ck _ _ _ _ _ _ _ _ _ _ _ (@aI _ _ _ _ _ _ _ _ _ (@fj _ _ _ rfl hr) (¬1) ae (az _))
      (@af _ _ _ _ _ _ _ _ (@aG _ _ _ _ _ 2 _ _ nd rfl (Or.inl rfl) (@cL _ _ _ _ _ _ _ rfl ae (@bo _ _ _ _ _ _ _ (¬0) ae)) (by rfl) (by trivial))
      (@aj _ _ _ _ _ (@aw _ _ _ _ _ (@bA _ _ _ _ _ _ _ _ _ _ _ _ _ _ _ LN Mj (hr.mono (by decide)) ((@bo _ _ _ _ _ _ _ (@jn _ _ _ _ _ _ _ (¬0) ae) (@cL _ _ _ _ _ _ _ rfl (¬2) ae))∘((¬2)∘ac)) (by rfl) (by decide) (by rfl) (by rfl)))))
      (@a9 _ _))
      (@aj _ _ _ _ _ (@aw _ _ _ _ _ (@br _ _ _ _ _ _ (ae∘(ae∘ac)))))))))
noncomputable def vw:FS:=(bh (ax dM (d_ (aa (ax bu (ab 0) (vC (.int 7))) (aa (ax cx (vC (.int 5)) (ax bu (ab 0) (vC (.int 2)))) (aa (ax bu (ab 0) (vC (.int 1001))) (aa (ax lF (vC (.int 1000)) (ax bu (ab 0) (vC (.int 3)))) ah))))) (ax bu (ab 1) (vC (.int 4)))))
noncomputable def kJ:FM:=h8 2 0 [] vw
theorem tX:au ["_law_number","_law_kind"] ["_law_number","_law_kind"] (ag lc):=⟨rfl,rfl,rfl,by decide+kernel,rfl,by decide+kernel,by decide+kernel⟩
theorem y8(h:dm K mg "_law_worth" lc f fd ["_law_number","_law_kind"])(T:b5 mg):aA P w K mg base bY 1 f fd ["_law_number","_law_kind"] (di K 2 kJ):=by
  have nd:=tX.nd
  exact h.fn tX rfl rfl (fun cdv A outer s H E hr=>(@aj _ _ _ _ _ (@aw _ _ _ _ _ (@ce _ _ _ _ _ _ _ rfl (@cz _ _ _ _ _ ((@bo _ _ _ _ _ _ _ (¬0) ae)∘((@cL _ _ _ _ _ _ _ rfl ae (@bo _ _ _ _ _ _ _ (¬0) ae))∘((@bo _ _ _ _ _ _ _ (¬0) ae)∘((@zE _ _ _ _ _ _ _ ae (@bo _ _ _ _ _ _ _ (¬0) ae))∘ac))))) (@bo _ _ _ _ _ _ _ (¬1) ae) (fun _ _=>rfl)))))
noncomputable def nV:FI:=(cV (aa (ab 2) ah))
noncomputable def gJ:FS:=(aL (bi 8 (cR 1 bz (aa (ab 0) ah)))
    (aL (bi 9 (ax dM (d_ (aa (ax bu (ab 8) (ab 1)) (aa (vC (.int 0)) (aa (ax bu (ab 7) (ab 1)) (aa (ax bu (ab 8) (ab 1)) (aa (ax bu (ab 8) (vC (.int 2))) (aa (ax bu (ab 8) (ab 1)) ah))))))) (ab 3)))
    (aL (bi 10 (ax bu (ax cx (ax cx (ab 9) (vC (.int 1))) (ax bu (ax fx (ab 8) (vC (.int 12))) (ax lF (ab 1) (vC (.int 1))))) (ab 1)))
    (aL (iO (ay (ax (bj false) (ab 3) (vC (.int 4))))
    (k8 (cu (aa (vC (.int 0)) (aa (vC (.int 1)) ah))) (cK (aS (am 9) (aS (am 10) cm))))
    cG)
    (aL (bi 11 (cR 1 bz (aa (ab 0) ah)))
    (aL (bi 12 (cu (aa (aB (g2 yo) (aa (ab 9) (aa (ab 10) ah))) (aa (aB (g2 xb) (aa (ab 9) (aa (ab 10) ah))) ah))))
    (eD (b7 bK (ab 6) (aa (ax cx (ab 12) (cu (aa (cR 2 eA (aa (ab 11) (aa (ab 4) ah))) (aa (cR 2 kJ (aa (ax fx (ab 11) (vC (.int 10007))) (aa (ab 5) ah))) ah)))) ah)))))))))
noncomputable def xW:FS:=(aL (bi 3 (ax bu (cR 1 bz (aa (ab 0) ah)) (vC (.int 6))))
    (aL (bi 4 (ax bu (cR 1 bz (aa (ab 0) ah)) (vC (.int 4))))
    (aL (bi 5 (ax bu (cR 1 bz (aa (ab 0) ah)) (vC (.int 4))))
    (aL (bi 6 (d_ ah))
    (aL (gE ([7]++([8]++([9]++([10]++((([9]++([10]++[]))++[])++([11]++([12]++[]))))))) nV (am 7) gJ)
    (bh (aB (g1 dz) (aa (ab 6) ah))))))))
noncomputable def oe:FM:=h8 3 10 ([3]++([4]++([5]++([6]++(([7]++([8]++([9]++([10]++((([9]++([10]++[]))++[])++([11]++([12]++[])))))))++[]))))) xW
theorem wu:au ["_law_drawn","_law_things","_law_many","_law_shape","_law_odds","_law_worths","_law_found","_law_k","_law_number","_law_one","_law_other","_law_cell","_law_ends"] ["_law_drawn","_law_things","_law_many"] (ag oK):=⟨rfl,rfl,rfl,by decide+kernel,rfl,by decide+kernel,by decide+kernel⟩
theorem Bv(h:dm K mg "_law_ties" oK f fd ["_law_drawn","_law_things","_law_many"])(T:b5 mg)(zLnext:Cl P w K mg base "_law_next" jq ["_law_drawn"] 1 1 bz)(zLchance:Cl P w K mg base "_law_chance" jp ["_law_number","_law_kind"] 3 2 eA)(zLworth:Cl P w K mg base "_law_worth" lc ["_law_number","_law_kind"] 1 2 kJ):aA P w K mg base bY 4 f fd ["_law_drawn","_law_things","_law_many"] (di K 3 oe):=by
  obtain⟨Lp,Lq,Ks,Kt⟩:=zLnext
  obtain⟨Ms,Mt,K5,LX⟩:=zLchance
  obtain⟨Mz,MA,Ll,Mc⟩:=zLworth
  have nd:=wu.nd
  exact h.fn wu rfl rfl (fun cdv A outer s H E hr=>(@af _ _ _ _ _ _ _ _ (@aG _ _ _ _ _ 3 _ _ nd rfl (Or.inl rfl) (@bo _ _ _ _ _ _ _ (@bA _ _ _ _ _ _ _ _ _ _ _ _ _ _ _ Ks Kt (hr.mono (by decide)) ((¬0)∘ac) (by rfl) (by decide) (by rfl) (by rfl)) ae) (by rfl) (by trivial))
      (@af _ _ _ _ _ _ _ _ (@aG _ _ _ _ _ 4 _ _ nd rfl (Or.inl rfl) (@bo _ _ _ _ _ _ _ (@bA _ _ _ _ _ _ _ _ _ _ _ _ _ _ _ Ks Kt (hr.mono (by decide)) ((¬0)∘ac) (by rfl) (by decide) (by rfl) (by rfl)) ae) (by rfl) (by trivial))
      (@af _ _ _ _ _ _ _ _ (@aG _ _ _ _ _ 5 _ _ nd rfl (Or.inl rfl) (@bo _ _ _ _ _ _ _ (@bA _ _ _ _ _ _ _ _ _ _ _ _ _ _ _ Ks Kt (hr.mono (by decide)) ((¬0)∘ac) (by rfl) (by decide) (by rfl) (by rfl)) ae) (by rfl) (by trivial))
      (@af _ _ _ _ _ _ _ _ (@aG _ _ _ _ _ 6 _ _ nd rfl (Or.inl rfl) (@cz _ _ _ _ _ ac) (by rfl) (by trivial))
      (@af _ _ _ _ _ _ _ _ (@j_ _ _ _ _ _ _ _ _ _ _ _ OK rfl (@dg _ _ _ _ _ _ _ rfl T.b_range ((¬2)∘ac) (by rfl)) (@aF _ _ _ 7 _ nd rfl (Or.inl rfl) (by trivial))
      (@af _ _ _ _ _ _ _ _ (@aG _ _ _ _ _ 8 _ _ nd rfl (Or.inl rfl) (@bA _ _ _ _ _ _ _ _ _ _ _ _ _ _ _ Ks Kt (hr.mono (by decide)) ((¬0)∘ac) (by rfl) (by decide) (by rfl) (by rfl)) (by rfl) (by trivial))
      (@af _ _ _ _ _ _ _ _ (@aG _ _ _ _ _ 9 _ _ nd rfl (Or.inl rfl) (@ce _ _ _ _ _ _ _ rfl (@cz _ _ _ _ _ ((@bo _ _ _ _ _ _ _ (¬8) (¬1))∘(ae∘((@bo _ _ _ _ _ _ _ (¬7) (¬1))∘((@bo _ _ _ _ _ _ _ (¬8) (¬1))∘((@bo _ _ _ _ _ _ _ (¬8) ae)∘((@bo _ _ _ _ _ _ _ (¬8) (¬1))∘ac))))))) (¬3) (fun _ _=>rfl)) (by rfl) (by trivial))
      (@af _ _ _ _ _ _ _ _ (@aG _ _ _ _ _ 10 _ _ nd rfl (Or.inl rfl) (@bo _ _ _ _ _ _ _ (@cL _ _ _ _ _ _ _ rfl (@cL _ _ _ _ _ _ _ rfl (¬9) ae) (@bo _ _ _ _ _ _ _ (@jn _ _ _ _ _ _ _ (¬8) ae) (@zE _ _ _ _ _ _ _ (¬1) ae))) (¬1)) (by rfl) (by trivial))
      (@af _ _ _ _ _ _ _ _ (@ck _ _ _ _ _ _ _ _ _ _ _ (@aI _ _ _ _ _ _ _ _ _ (@fj _ _ _ rfl hr) (¬3) ae (az _))
      (@aj _ _ _ _ _ (@oB _ _ _ _ _ _ _ _ (@br _ _ _ _ _ _ (ae∘(ae∘ac))) (@gD _ _ _ _ _ _ _ _ rfl rfl (@ba _ _ _ _ _ _ _ _ (@aF _ _ _ 9 _ nd rfl (Or.inl rfl) (by trivial)) (@ba _ _ _ _ _ _ _ _ (@aF _ _ _ 10 _ nd rfl (Or.inl rfl) (by trivial)) (@el _ _) (by rfl)) (by rfl)) (bx (bx gB)) (by rfl) (by rfl)) (by rfl) (by rfl) (by rfl)))
      (@a9 _ _))
      (@af _ _ _ _ _ _ _ _ (@aG _ _ _ _ _ 11 _ _ nd rfl (Or.inl rfl) (@bA _ _ _ _ _ _ _ _ _ _ _ _ _ _ _ Ks Kt (hr.mono (by decide)) ((¬0)∘ac) (by rfl) (by decide) (by rfl) (by rfl)) (by rfl) (by trivial))
      (@af _ _ _ _ _ _ _ _ (@aG _ _ _ _ _ 12 _ _ nd rfl (Or.inl rfl) (@br _ _ _ _ _ _ ((@aT _ _ _ _ _ _ _ _ _ (@b_min _ _ rfl) (by rfl) T.b_min ((¬9)∘((¬10)∘ac)) (by decide) (by decide) (by rfl) (by rfl))∘((@aT _ _ _ _ _ _ _ _ _ (@b_max _ _ rfl) (by rfl) T.b_max ((¬9)∘((¬10)∘ac)) (by decide) (by decide) (by rfl) (by rfl))∘ac))) (by rfl) (by trivial))
      (@aj _ _ _ _ _ (@eU _ _ _ _ _ (@fQ _ _ _ _ _ _ _ _ _ rfl (¬6) ((@cL _ _ _ _ _ _ _ rfl (¬12) (@br _ _ _ _ _ _ ((@bA _ _ _ _ _ _ _ _ _ _ _ _ _ _ _ K5 LX (hr.mono (by decide)) ((¬11)∘((¬4)∘ac)) (by rfl) (by decide) (by rfl) (by rfl))∘((@bA _ _ _ _ _ _ _ _ _ _ _ _ _ _ _ Ll Mc (hr.mono (by decide)) ((@jn _ _ _ _ _ _ _ (¬11) ae)∘((¬5)∘ac)) (by rfl) (by decide) (by rfl) (by rfl))∘ac))))∘ac) (by rfl) (by rfl) (by rfl) (by rfl) (by rfl)) (by rfl))))))))) (by intro _;rfl))
      (@aj _ _ _ _ _ (@aw _ _ _ _ _ (@aT _ _ _ _ _ _ _ _ _ (@b_tuple _ _ rfl) (by rfl) T.b_tuple ((¬6)∘ac) (by decide) (by decide) (by rfl) (by rfl))))))))))
noncomputable def qV:FI:=(cV (aa (ab 3) ah))
noncomputable def mR:FS:=(eD (b7 bK (ab 7) (aa (ax dM (d_ (aa (vC (.int 20)) (aa (ax cx (vC (.int 1)) (ax bu (cR 1 bz (aa (ab 0) ah)) (vC (.int 3)))) (aa (ax bu (cR 1 bz (aa (ab 0) ah)) (vC (.int 21))) ah)))) (ab 6)) ah)))
noncomputable def CB:FS:=(aL (bi 3 (ax bu (cR 1 bz (aa (ab 0) ah)) (ax cx (ab 1) (vC (.int 1)))))
    (aL (bi 4 (ax nP (ax bu (cR 1 bz (aa (ab 0) ah)) (ax cx (ab 2) (vC (.int 1)))) (aB (g1 pz) (aa (ax CK (ab 3) (vC (.int 1))) ah))))
    (aL (bi 5 (cR 3 oe (aa (ab 0) (aa (aB (g2 xb) (aa (vC (.int 2)) (aa (ab 3) ah))) (aa (ab 4) ah)))))
    (aL (bi 6 (ax bu (cR 1 bz (aa (ab 0) ah)) (vC (.int 3))))
    (aL (bi 7 (d_ ah))
    (aL (gE ([8]++[]) qV (am 8) mR)
    (aL (bi 9 (ax dM (d_ (aa (vC (.int 40)) (aa (ax cx (vC (.int 1)) (ax bu (cR 1 bz (aa (ab 0) ah)) (aB (g2 xb) (aa (vC (.int 1)) (aa (ab 4) ah))))) (aa (ax bu (cR 1 bz (aa (ab 0) ah)) (vC (.int 41))) ah)))) (ax bu (cR 1 bz (aa (ab 0) ah)) (vC (.int 3)))))
    (bh (cu (aa (ab 3) (aa (ab 5) (aa (aB (g1 dz) (aa (ab 7) ah)) (aa (ab 9) ah)))))))))))))
noncomputable def p_:FM:=h8 3 7 ([3]++([4]++([5]++([6]++([7]++(([8]++[])++([9]++[]))))))) CB
theorem z7:au ["_law_drawn","_law_most","_law_ties_here","_law_things","_law_many","_law_rows","_law_way","_law_patience","_law_k","_law_asks"] ["_law_drawn","_law_most","_law_ties_here"] (ag tU):=⟨rfl,rfl,rfl,by decide+kernel,rfl,by decide+kernel,by decide+kernel⟩
theorem Em(h:dm K mg "_law_web" tU f fd ["_law_drawn","_law_most","_law_ties_here"])(T:b5 mg)(zLties:Cl P w K mg base "_law_ties" oK ["_law_drawn","_law_things","_law_many"] 4 3 oe)(zLnext:Cl P w K mg base "_law_next" jq ["_law_drawn"] 1 1 bz):aA P w K mg base bY 5 f fd ["_law_drawn","_law_most","_law_ties_here"] (di K 3 p_):=by
  obtain⟨MD,ME,Lz,Ml⟩:=zLties
  obtain⟨Lp,Lq,Ks,Kt⟩:=zLnext
  have nd:=z7.nd
  exact h.fn z7 rfl rfl (fun cdv A outer s H E hr=>(@af _ _ _ _ _ _ _ _ (@aG _ _ _ _ _ 3 _ _ nd rfl (Or.inl rfl) (@bo _ _ _ _ _ _ _ (@bA _ _ _ _ _ _ _ _ _ _ _ _ _ _ _ Ks Kt (hr.mono (by decide)) ((¬0)∘ac) (by rfl) (by decide) (by rfl) (by rfl)) (@cL _ _ _ _ _ _ _ rfl (¬1) ae)) (by rfl) (by trivial))
      (@af _ _ _ _ _ _ _ _ (@aG _ _ _ _ _ 4 _ _ nd rfl (Or.inl rfl) (@qf _ _ _ _ _ _ _ rfl (@bo _ _ _ _ _ _ _ (@bA _ _ _ _ _ _ _ _ _ _ _ _ _ _ _ Ks Kt (hr.mono (by decide)) ((¬0)∘ac) (by rfl) (by decide) (by rfl) (by rfl)) (@cL _ _ _ _ _ _ _ rfl (¬2) ae)) (@aT _ _ _ _ _ _ _ _ _ (@b_int _ _) (by rfl) T.b_int ((@mi _ _ _ _ _ _ _ _ _ (@x6 _ _) (¬3) ae (az _))∘ac) (by decide) (by decide) (by rfl) (by rfl))) (by rfl) (by trivial))
      (@af _ _ _ _ _ _ _ _ (@aG _ _ _ _ _ 5 _ _ nd rfl (Or.inl rfl) (@bA _ _ _ _ _ _ _ _ _ _ _ _ _ _ _ Lz Ml (hr.mono (by decide)) ((¬0)∘((@aT _ _ _ _ _ _ _ _ _ (@b_max _ _ rfl) (by rfl) T.b_max (ae∘((¬3)∘ac)) (by decide) (by decide) (by rfl) (by rfl))∘((¬4)∘ac))) (by rfl) (by decide) (by rfl) (by rfl)) (by rfl) (by trivial))
      (@af _ _ _ _ _ _ _ _ (@aG _ _ _ _ _ 6 _ _ nd rfl (Or.inl rfl) (@bo _ _ _ _ _ _ _ (@bA _ _ _ _ _ _ _ _ _ _ _ _ _ _ _ Ks Kt (hr.mono (by decide)) ((¬0)∘ac) (by rfl) (by decide) (by rfl) (by rfl)) ae) (by rfl) (by trivial))
      (@af _ _ _ _ _ _ _ _ (@aG _ _ _ _ _ 7 _ _ nd rfl (Or.inl rfl) (@cz _ _ _ _ _ ac) (by rfl) (by trivial))
      (@af _ _ _ _ _ _ _ _ (@j_ _ _ _ _ _ _ _ _ _ _ _ OK rfl (@dg _ _ _ _ _ _ _ rfl T.b_range ((¬3)∘ac) (by rfl)) (@aF _ _ _ 8 _ nd rfl (Or.inl rfl) (by trivial))
      (@aj _ _ _ _ _ (@eU _ _ _ _ _ (@fQ _ _ _ _ _ _ _ _ _ rfl (¬7) ((@ce _ _ _ _ _ _ _ rfl (@cz _ _ _ _ _ (ae∘((@cL _ _ _ _ _ _ _ rfl ae (@bo _ _ _ _ _ _ _ (@bA _ _ _ _ _ _ _ _ _ _ _ _ _ _ _ Ks Kt (hr.mono (by decide)) ((¬0)∘ac) (by rfl) (by decide) (by rfl) (by rfl)) ae))∘((@bo _ _ _ _ _ _ _ (@bA _ _ _ _ _ _ _ _ _ _ _ _ _ _ _ Ks Kt (hr.mono (by decide)) ((¬0)∘ac) (by rfl) (by decide) (by rfl) (by rfl)) ae)∘ac)))) (¬6) (fun _ _=>rfl))∘ac) (by rfl) (by rfl) (by rfl) (by rfl) (by rfl)) (by rfl))) (by intro _;rfl))
      (@af _ _ _ _ _ _ _ _ (@aG _ _ _ _ _ 9 _ _ nd rfl (Or.inl rfl) (@ce _ _ _ _ _ _ _ rfl (@cz _ _ _ _ _ (ae∘((@cL _ _ _ _ _ _ _ rfl ae (@bo _ _ _ _ _ _ _ (@bA _ _ _ _ _ _ _ _ _ _ _ _ _ _ _ Ks Kt (hr.mono (by decide)) ((¬0)∘ac) (by rfl) (by decide) (by rfl) (by rfl)) (@aT _ _ _ _ _ _ _ _ _ (@b_max _ _ rfl) (by rfl) T.b_max (ae∘((¬4)∘ac)) (by decide) (by decide) (by rfl) (by rfl))))∘((@bo _ _ _ _ _ _ _ (@bA _ _ _ _ _ _ _ _ _ _ _ _ _ _ _ Ks Kt (hr.mono (by decide)) ((¬0)∘ac) (by rfl) (by decide) (by rfl) (by rfl)) ae)∘ac)))) (@bo _ _ _ _ _ _ _ (@bA _ _ _ _ _ _ _ _ _ _ _ _ _ _ _ Ks Kt (hr.mono (by decide)) ((¬0)∘ac) (by rfl) (by decide) (by rfl) (by rfl)) ae) (fun _ _=>rfl)) (by rfl) (by trivial))
      (@aj _ _ _ _ _ (@aw _ _ _ _ _ (@br _ _ _ _ _ _ ((¬3)∘((¬5)∘((@aT _ _ _ _ _ _ _ _ _ (@b_tuple _ _ rfl) (by rfl) T.b_tuple ((¬7)∘ac) (by decide) (by decide) (by rfl) (by rfl))∘((¬9)∘ac)))))))))))))))
noncomputable def md:FI:=(jK (ab 1))
noncomputable def em:FT:=(ay (ax (uj false) (ab 0) (wD (ax dM (ax dM (ab 1) (vC (.int 1))) (ab 2)) gp (fN (vC (.int 2))))))
noncomputable def er:FE:=(ab 2)
noncomputable def pL:FS:=(bh (aB (g1 gb) (aa (dI [(2,"_law_thing"),(0,"_law_web_here")] 1 md (am 2) em er) ah)))
noncomputable def eZ:FM:=h8 3 0 [] pL
theorem oQ:au ["_law_web_here","_law_asked","_law_thing"] ["_law_web_here","_law_asked","_law_thing"] (ag g9):=⟨rfl,rfl,rfl,by decide+kernel,rfl,by decide+kernel,by decide+kernel⟩
theorem uQ(h:dm K mg "_law_asks_of" g9 f fd ["_law_web_here","_law_asked","_law_thing"])(T:b5 mg):aA P w K mg base bY 1 f fd ["_law_web_here","_law_asked","_law_thing"] (di K 3 eZ):=by
  have nd:=oQ.nd
  exact h.fn oQ rfl rfl (fun cdv A outer s H E hr=>(@aj _ _ _ _ _ (@aw _ _ _ _ _ (@aT _ _ _ _ _ _ _ _ _ (@b_len _ _ rfl) (by rfl) T.b_len ((@dD _ _ _ _ _ _ _ _ _ _ _ _ _ [(2,"_law_thing"),(0,"_law_web_here")] ["_law_tie"] rfl rfl (@eL _ _ _ _ _ rfl (¬1))
        (fun C s0 H0 fp=>(@aF _ _ _ 2 _ (show Ou (["_law_thing","_law_web_here","_law_tie"]:List Str) by decide+kernel) rfl (Or.inl rfl) (by trivial))) (fun C s0 H0 fp=>(@iM _ _ _ _ (@aI _ _ _ _ _ _ _ _ _ (@wL _ _ _ rfl hr) (¬0) (@mU _ _ _ _ _ _ _ _ _ _ rfl (@ce _ _ _ _ _ _ _ rfl (@ce _ _ _ _ _ _ _ rfl (¬1) ae (fun _ _=>rfl)) (¬2) (fun _ _=>rfl)) (@iJ _ _) (@iK _ _ _ _ ae)) (by with_unfolding_all rfl))))
        (fun C s0 H0 fp=>(¬2)) rfl (by rfl) (by intro _;rfl))∘ac) (by decide) (by decide) (by rfl) (by rfl)))))
noncomputable def vK:FI:=(jK (wD (ax dM (ax dM (ab 0) (vC (.int 1))) (ab 2)) gp (fN (vC (.int 2)))))
noncomputable def ig:FS:=(iO (uf (ay (ax (uj false) (ab 5) (ab 4))) (ay (ax CJ (cR 3 eZ (aa (ab 0) (aa (ab 3) (aa (ab 5) ah)))) (ax dM (ax dM (ab 0) (vC (.int 2))) (ab 5)))))
    (bh (vC (.bool false)))
    cG)
noncomputable def pM:FS:=(aL (k8 (ab 1) (cK (aS (am 3) (aS (am 4) cm))))
    (aL (iO (uf (ay (ax (uj false) (ab 2) (ab 3))) (ay (ax CJ (aB (g1 gb) (aa (ab 3) ah)) (ax dM (ab 0) (vC (.int 3))))))
    (bh (vC (.bool false)))
    cG)
    (aL (gE ([5]++([]++[])) vK (am 5) ig)
    (bh (vC (.bool true))))))
noncomputable def jh:FM:=h8 3 3 (([3]++([4]++[]))++(([]++[])++(([5]++([]++[]))++[]))) pM
theorem z6:au ["_law_web_here","_law_stand","_law_tie","_law_asked","_law_taken","_law_thing"] ["_law_web_here","_law_stand","_law_tie"] (ag qi):=⟨rfl,rfl,rfl,by decide+kernel,rfl,by decide+kernel,by decide+kernel⟩
theorem El(h:dm K mg "_law_may" qi f fd ["_law_web_here","_law_stand","_law_tie"])(T:b5 mg)(zLasks_of:Cl P w K mg base "_law_asks_of" g9 ["_law_web_here","_law_asked","_law_thing"] 1 3 eZ):aA P w K mg base bY 2 f fd ["_law_web_here","_law_stand","_law_tie"] (di K 3 jh):=by
  obtain⟨Mm,Mn,KZ,LO⟩:=zLasks_of
  have nd:=z6.nd
  exact h.fn z6 rfl rfl (fun cdv A outer s H E hr=>(@af _ _ _ _ _ _ _ _ (@oB _ _ _ _ _ _ _ _ (¬1) (@gD _ _ _ _ _ _ _ _ rfl rfl (@ba _ _ _ _ _ _ _ _ (@aF _ _ _ 3 _ nd rfl (Or.inl rfl) (by trivial)) (@ba _ _ _ _ _ _ _ _ (@aF _ _ _ 4 _ nd rfl (Or.inl rfl) (by trivial)) (@el _ _) (by rfl)) (by rfl)) (bx (bx gB)) (by rfl) (by rfl)) (by rfl) (by rfl) (by rfl))
      (@af _ _ _ _ _ _ _ _ (@ck _ _ _ _ _ _ _ _ _ _ _ (@pH _ _ _ _ (@oC _ _ _ _ _ _ _ _ (@aI _ _ _ _ _ _ _ _ _ (@wL _ _ _ rfl hr) (¬2) (¬3) (by with_unfolding_all rfl)) (@ka _ _ _ _ _ (@aI _ _ _ _ _ _ _ _ _ (@x5 _ _) (@aT _ _ _ _ _ _ _ _ _ (@b_len _ _ rfl) (by rfl) T.b_len ((¬3)∘ac) (by decide) (by decide) (by rfl) (by rfl)) (@ce _ _ _ _ _ _ _ rfl (¬0) ae (fun _ _=>rfl)) (az _)))))
      (@aj _ _ _ _ _ (@aw _ _ _ _ _ (@qh _ _ _ _ _)))
      (@a9 _ _))
      (@af _ _ _ _ _ _ _ _ (@j_ _ _ _ _ _ _ _ _ _ _ _ OK rfl (@eL _ _ _ _ _ rfl (@mU _ _ _ _ _ _ _ _ _ _ rfl (@ce _ _ _ _ _ _ _ rfl (@ce _ _ _ _ _ _ _ rfl (¬0) ae (fun _ _=>rfl)) (¬2) (fun _ _=>rfl)) (@iJ _ _) (@iK _ _ _ _ ae))) (@aF _ _ _ 5 _ nd rfl (Or.inl rfl) (by trivial))
      (@aj _ _ _ _ _ (@ck _ _ _ _ _ _ _ _ _ _ _ (@pH _ _ _ _ (@oC _ _ _ _ _ _ _ _ (@aI _ _ _ _ _ _ _ _ _ (@wL _ _ _ rfl hr) (¬5) (¬4) (by with_unfolding_all rfl)) (@ka _ _ _ _ _ (@aI _ _ _ _ _ _ _ _ _ (@x5 _ _) (@bA _ _ _ _ _ _ _ _ _ _ _ _ _ _ _ KZ LO (hr.mono (by decide)) ((¬0)∘((¬3)∘((¬5)∘ac))) (by rfl) (by decide) (by rfl) (by rfl)) (@ce _ _ _ _ _ _ _ rfl (@ce _ _ _ _ _ _ _ rfl (¬0) ae (fun _ _=>rfl)) (¬5) (fun _ _=>rfl)) (az _)))))
      (@aj _ _ _ _ _ (@aw _ _ _ _ _ (@qh _ _ _ _ _)))
      (@a9 _ _))) (by intro _;rfl))
      (@aj _ _ _ _ _ (@aw _ _ _ _ _ (@qh _ _ _ _ _)))))))
noncomputable def m8:FS:=(aL (k8 (ab 1) (cK (aS (am 4) (aS (am 5) cm))))
    (aL (bi 6 (ab 5))
    (aL (iO (ay (ab 3))
    (bi 6 (aB (g1 dz) (aa (aB (g1 dW) (aa (ax cx (ab 5) (wD (ax dM (ax dM (ab 0) (vC (.int 1))) (ab 2)) gp (fN (vC (.int 2))))) ah)) ah)))
    cG)
    (bh (cu (aa (aB (g1 dz) (aa (aB (g1 dW) (aa (ax cx (ab 4) (cu (aa (ab 2) ah))) ah)) ah)) (aa (ab 6) ah)))))))
noncomputable def fJ:FM:=h8 4 3 (([4]++([5]++[]))++([6]++(([6]++[])++[]))) m8
theorem qj:au ["_law_web_here","_law_stand","_law_tie","_law_truth","_law_asked","_law_taken","_law_more"] ["_law_web_here","_law_stand","_law_tie","_law_truth"] (ag jo):=⟨rfl,rfl,rfl,by decide+kernel,rfl,by decide+kernel,by decide+kernel⟩
theorem xq(h:dm K mg "_law_behind" jo f fd ["_law_web_here","_law_stand","_law_tie","_law_truth"])(T:b5 mg):aA P w K mg base bY 1 f fd ["_law_web_here","_law_stand","_law_tie","_law_truth"] (di K 4 fJ):=by
  have nd:=qj.nd
  exact h.fn qj rfl rfl (fun cdv A outer s H E hr=>(@af _ _ _ _ _ _ _ _ (@oB _ _ _ _ _ _ _ _ (¬1) (@gD _ _ _ _ _ _ _ _ rfl rfl (@ba _ _ _ _ _ _ _ _ (@aF _ _ _ 4 _ nd rfl (Or.inl rfl) (by trivial)) (@ba _ _ _ _ _ _ _ _ (@aF _ _ _ 5 _ nd rfl (Or.inl rfl) (by trivial)) (@el _ _) (by rfl)) (by rfl)) (bx (bx gB)) (by rfl) (by rfl)) (by rfl) (by rfl) (by rfl))
      (@af _ _ _ _ _ _ _ _ (@aG _ _ _ _ _ 6 _ _ nd rfl (Or.inl rfl) (¬5) (by rfl) (by trivial))
      (@af _ _ _ _ _ _ _ _ (@ck _ _ _ _ _ _ _ _ _ _ _ (@fU _ _ _ _ (¬3) (by intro _;rfl))
      (@aj _ _ _ _ _ (@aG _ _ _ _ _ 6 _ _ nd rfl (Or.inl rfl) (@aT _ _ _ _ _ _ _ _ _ (@b_tuple _ _ rfl) (by rfl) T.b_tuple ((@aT _ _ _ _ _ _ _ _ _ (@b_sorted _ _ rfl) (by rfl) T.b_sorted ((@cL _ _ _ _ _ _ _ rfl (¬5) (@mU _ _ _ _ _ _ _ _ _ _ rfl (@ce _ _ _ _ _ _ _ rfl (@ce _ _ _ _ _ _ _ rfl (¬0) ae (fun _ _=>rfl)) (¬2) (fun _ _=>rfl)) (@iJ _ _) (@iK _ _ _ _ ae)))∘ac) (by decide) (by decide) (by rfl) (by rfl))∘ac) (by decide) (by decide) (by rfl) (by rfl)) (by rfl) (by trivial)))
      (@a9 _ _))
      (@aj _ _ _ _ _ (@aw _ _ _ _ _ (@br _ _ _ _ _ _ ((@aT _ _ _ _ _ _ _ _ _ (@b_tuple _ _ rfl) (by rfl) T.b_tuple ((@aT _ _ _ _ _ _ _ _ _ (@b_sorted _ _ rfl) (by rfl) T.b_sorted ((@cL _ _ _ _ _ _ _ rfl (¬4) (@br _ _ _ _ _ _ ((¬2)∘ac)))∘ac) (by decide) (by decide) (by rfl) (by rfl))∘ac) (by decide) (by decide) (by rfl) (by rfl))∘((¬6)∘ac)))))))))
noncomputable def sO:FI:=(cV (aa (aB (g1 gb) (aa (ax dM (ab 0) (vC (.int 1))) ah)) ah))
noncomputable def r9:FT:=(ay (cR 3 jh (aa (ab 0) (aa (ab 1) (aa (ab 2) ah)))))
noncomputable def sD:FE:=(ab 2)
noncomputable def wH:FS:=(bh (dI [(0,"_law_web_here"),(1,"_law_stand")] 1 sO (am 2) r9 sD))
noncomputable def lI:FM:=h8 2 0 [] wH
theorem oP:au ["_law_web_here","_law_stand"] ["_law_web_here","_law_stand"] (ag gZ):=⟨rfl,rfl,rfl,by decide+kernel,rfl,by decide+kernel,by decide+kernel⟩
theorem uP(h:dm K mg "_law_askable" gZ f fd ["_law_web_here","_law_stand"])(T:b5 mg)(zLmay:Cl P w K mg base "_law_may" qi ["_law_web_here","_law_stand","_law_tie"] 2 3 jh):aA P w K mg base bY 3 f fd ["_law_web_here","_law_stand"] (di K 2 lI):=by
  obtain⟨Md,Me,Ly,LG⟩:=zLmay
  have nd:=oP.nd
  exact h.fn oP rfl rfl (fun cdv A outer s H E hr=>(@aj _ _ _ _ _ (@aw _ _ _ _ _ (@dD _ _ _ _ _ _ _ _ _ _ _ _ _ [(0,"_law_web_here"),(1,"_law_stand")] ["_law_tie"] rfl rfl (@dg _ _ _ _ _ _ _ rfl T.b_range ((@aT _ _ _ _ _ _ _ _ _ (@b_len _ _ rfl) (by rfl) T.b_len ((@ce _ _ _ _ _ _ _ rfl (¬0) ae (fun _ _=>rfl))∘ac) (by decide) (by decide) (by rfl) (by rfl))∘ac) (by rfl))
        (fun C s0 H0 fp=>(@aF _ _ _ 2 _ (show Ou (["_law_web_here","_law_stand","_law_tie"]:List Str) by decide+kernel) rfl (Or.inl rfl) (by trivial))) (fun C s0 H0 fp=>(@iM _ _ _ _ (@fU _ _ _ _ (@bA _ _ _ _ _ _ _ _ _ _ _ _ _ _ _ Ly LG (hr.mono (by decide)) ((¬0)∘((¬1)∘((¬2)∘ac))) (by rfl) (by decide) (by rfl) (by rfl)) (by intro _;rfl))))
        (fun C s0 H0 fp=>(¬2)) rfl (by rfl) (by intro _;rfl)))))
noncomputable def yA:FI:=(jK (ab 1))
noncomputable def x4:FT:=(ay (ab 2))
noncomputable def yi:FE:=(ax dM (ax dM (ax dM (ab 0) (vC (.int 1))) (ab 1)) (vC (.int 3)))
noncomputable def Dn:FS:=(bh (aB (g1 (jf vI)) (aa (dI [(0,"_law_web_here")] 2 yA (cK (aS (am 1) (aS (am 2) cm))) x4 yi) ah)))
noncomputable def uL:FM:=h8 2 0 [] Dn
theorem wn:au ["_law_web_here","_law_run"] ["_law_web_here","_law_run"] (ag oI):=⟨rfl,rfl,rfl,by decide+kernel,rfl,by decide+kernel,by decide+kernel⟩
theorem Br(h:dm K mg "_law_kept" oI f fd ["_law_web_here","_law_run"])(T:b5 mg):aA P w K mg base bY 1 f fd ["_law_web_here","_law_run"] (di K 2 uL):=by
  have nd:=wn.nd
  exact h.fn wn rfl rfl (fun cdv A outer s H E hr=>(@aj _ _ _ _ _ (@aw _ _ _ _ _ (@aT _ _ _ _ _ _ _ _ _ (@b_sum _ _ _ rfl hr) (by rfl) T.b_sum ((@dD _ _ _ _ _ _ _ _ _ _ _ _ _ [(0,"_law_web_here")] ["_law_tie","_law_truth"] rfl rfl (@eL _ _ _ _ _ rfl (¬1))
        (fun C s0 H0 fp=>(@gD _ _ _ _ _ _ _ _ rfl rfl (@ba _ _ _ _ _ _ _ _ (@aF _ _ _ 1 _ (show Ou (["_law_web_here","_law_tie","_law_truth"]:List Str) by decide+kernel) rfl (Or.inl rfl) (by trivial)) (@ba _ _ _ _ _ _ _ _ (@aF _ _ _ 2 _ (show Ou (["_law_web_here","_law_tie","_law_truth"]:List Str) by decide+kernel) rfl (Or.inl rfl) (by trivial)) (@el _ _) (by rfl)) (by rfl)) (bx (bx gB)) (by rfl) (by rfl))) (fun C s0 H0 fp=>(@iM _ _ _ _ (@fU _ _ _ _ (¬2) (by intro _;rfl))))
        (fun C s0 H0 fp=>(@ce _ _ _ _ _ _ _ rfl (@ce _ _ _ _ _ _ _ rfl (@ce _ _ _ _ _ _ _ rfl (¬0) ae (fun _ _=>rfl)) (¬1) (fun _ _=>rfl)) ae (fun _ _=>rfl))) rfl (by rfl) (by intro _;rfl))∘ac) (by decide) (by decide) (by rfl) (by rfl)))))
noncomputable def ky:FI:=(jK (ab 1))
noncomputable def ki:FS:=(bi 2 (cR 4 fJ (aa (ab 0) (aa (ab 2) (aa (ab 3) (aa (ab 4) ah))))))
noncomputable def m9:FS:=(aL (bi 2 (cu (aa (cu ah) (aa (cu ah) ah))))
    (aL (gE (([3]++([4]++[]))++[2]) ky (cK (aS (am 3) (aS (am 4) cm))) ki)
    (bh (ab 2))))
noncomputable def fK:FM:=h8 2 3 ([2]++((([3]++([4]++[]))++[2])++[])) m9
theorem mn:au ["_law_web_here","_law_run","_law_stand","_law_tie","_law_truth"] ["_law_web_here","_law_run"] (ag fY):=⟨rfl,rfl,rfl,by decide+kernel,rfl,by decide+kernel,by decide+kernel⟩
theorem tF(h:dm K mg "_law_stand_of" fY f fd ["_law_web_here","_law_run"])(T:b5 mg)(zLbehind:Cl P w K mg base "_law_behind" jo ["_law_web_here","_law_stand","_law_tie","_law_truth"] 1 4 fJ):aA P w K mg base bY 2 f fd ["_law_web_here","_law_run"] (di K 2 fK):=by
  obtain⟨Mu,Mv,K6,LY⟩:=zLbehind
  have nd:=mn.nd
  exact h.fn mn rfl rfl (fun cdv A outer s H E hr=>(@af _ _ _ _ _ _ _ _ (@aG _ _ _ _ _ 2 _ _ nd rfl (Or.inl rfl) (@br _ _ _ _ _ _ ((@br _ _ _ _ _ _ ac)∘((@br _ _ _ _ _ _ ac)∘ac))) (by rfl) (by trivial))
      (@af _ _ _ _ _ _ _ _ (@j_ _ _ _ _ _ _ _ _ _ _ _ OK rfl (@eL _ _ _ _ _ rfl (¬1)) (@gD _ _ _ _ _ _ _ _ rfl rfl (@ba _ _ _ _ _ _ _ _ (@aF _ _ _ 3 _ nd rfl (Or.inl rfl) (by trivial)) (@ba _ _ _ _ _ _ _ _ (@aF _ _ _ 4 _ nd rfl (Or.inl rfl) (by trivial)) (@el _ _) (by rfl)) (by rfl)) (bx (bx gB)) (by rfl) (by rfl))
      (@aj _ _ _ _ _ (@aG _ _ _ _ _ 2 _ _ nd rfl (Or.inl rfl) (@bA _ _ _ _ _ _ _ _ _ _ _ _ _ _ _ K6 LY (hr.mono (by decide)) ((¬0)∘((¬2)∘((¬3)∘((¬4)∘ac)))) (by rfl) (by decide) (by rfl) (by rfl)) (by rfl) (by trivial))) (by intro _;rfl))
      (@aj _ _ _ _ _ (@aw _ _ _ _ _ (¬2))))))
noncomputable def qU:FI:=(jK (ab 0))
noncomputable def qP:FE:=(aB (g1 iC) (aa (ab 0) ah))
noncomputable def uq:FS:=(aL (iO (ay (ax (bj false) (ab 0) (d_ ah)))
    (bh (vC (.str ("none":Str))))
    cG)
    (bh (ax sN (vC (.str (" ":Str))) (dI [] 1 qU (am 0) oW qP))))
noncomputable def iE:FM:=h8 1 0 (([]++[])++[]) uq
theorem ml:au ["_law_numbers"] ["_law_numbers"] (ag fX):=⟨rfl,rfl,rfl,by decide+kernel,rfl,by decide+kernel,by decide+kernel⟩
theorem tD(h:dm K mg "_law_row_text" fX f fd ["_law_numbers"])(T:b5 mg):aA P w K mg base bY 1 f fd ["_law_numbers"] (di K 1 iE):=by
  have nd:=ml.nd
  exact h.fn ml rfl rfl (fun cdv A outer s H E hr=>(@af _ _ _ _ _ _ _ _ (@ck _ _ _ _ _ _ _ _ _ _ _ (@aI _ _ _ _ _ _ _ _ _ (@fj _ _ _ rfl hr) (¬0) (@cz _ _ _ _ _ ac) (az _))
      (@aj _ _ _ _ _ (@aw _ _ _ _ _ (@aJ _ _ _ _ _)))
      (@a9 _ _))
      (@aj _ _ _ _ _ (@aw _ _ _ _ _ (@zD _ _ _ _ _ _ _ _ _ rfl (@dD _ _ _ _ _ _ _ _ _ _ _ _ _ [] ["_law_number"] rfl rfl (@eL _ _ _ _ _ rfl (¬0))
        (fun C s0 H0 fp=>(@aF _ _ _ 0 _ (show Ou (["_law_number"]:List Str) by decide+kernel) rfl (Or.inl rfl) (by trivial))) (fun C s0 H0 fp=>(@mW _ _))
        (fun C s0 H0 fp=>(@aT _ _ _ _ _ _ _ _ _ (@b_str _ _) (by rfl) T.b_str ((¬0)∘ac) (by decide) (by decide) (by rfl) (by rfl))) rfl (by rfl) (by intro _;rfl)) (by rfl) (by rfl) (by rfl) (by rfl) (by rfl))))))
noncomputable def AY:FI:=(jK (ab 3))
noncomputable def AJ:FT:=(ay (ab 1))
noncomputable def AQ:FE:=(ab 0)
noncomputable def i_:XS:=(pI 1 3 4 ([5]++((([6]++(([]++[])++([]++[])))++[])++(((([]++[])++([6]++([]++[])))++[])++(([]++[])++(([]++[])++(([]++[])++(([]++[])++([]++[])))))))) (aL (bi 5 (cR 2 fK (aa (ab 0) (aa (ab 3) ah))))
    (aL (iO (ay (ax (bj false) (pb (ab 2) gp (fN (vC (.int 4)))) (vC (.str ("ask ":Str)))))
    (aL (bi 6 (aB (g1 ix) (aa (pb (ab 2) (fN (vC (.int 4))) gp) ah)))
    (aL (iO (uf (ay (ax (bj true) (ab 4) (d_ ah))) (lW (ay (cR 3 jh (aa (ab 0) (aa (ab 5) (aa (ab 6) ah)))))))
    (bh (vC (.str ("NoAsk":Str))))
    cG)
    (aL (eD (b7 bK (ab 4) (aa (ab 6) ah)))
    (bh (vC (.str ("asked":Str)))))))
    cG)
    (aL (iO (uf (ay (ax (bj false) (ab 2) (vC (.str ("yes":Str))))) (ay (ax (bj false) (ab 2) (vC (.str ("no":Str))))))
    (aL (iO (ay (ax (bj false) (ab 4) (d_ ah)))
    (bh (vC (.str ("NoAsk":Str))))
    cG)
    (aL (bi 6 (b7 mK (ab 4) ah))
    (aL (eD (b7 bK (ab 3) (aa (cu (aa (ab 6) (aa (ax (bj false) (ab 2) (vC (.str ("yes":Str)))) ah))) ah)))
    (bh (ax dM (d_ (aa (vC (.str ("gone":Str))) (aa (ax je (vC (.str ("kept ":Str))) (aB (g1 iC) (aa (ax dM (ax dM (ax dM (ab 0) (vC (.int 1))) (ab 6)) (vC (.int 3))) ah))) ah))) (aB (g1 pz) (aa (ax (bj false) (ab 2) (vC (.str ("yes":Str)))) ah)))))))
    cG)
    (aL (iO (ay (ax (bj false) (ab 2) (vC (.str ("may":Str)))))
    (bh (cR 1 iE (aa (cR 2 lI (aa (ab 0) (aa (ab 5) ah))) ah)))
    cG)
    (aL (iO (ay (ax (bj false) (ab 2) (vC (.str ("kept":Str)))))
    (bh (ax je (ax je (cR 1 iE (aa (dI [] 2 AY (cK (aS (am 0) (aS (am 1) cm))) AJ AQ) ah)) (vC (.str (" ":Str)))) (aB (g1 iC) (aa (cR 2 uL (aa (ab 0) (aa (ab 3) ah))) ah))))
    cG)
    (aL (iO (lU (ay (ax (bj false) (ab 4) (d_ ah))) (ay (ax (bj false) (ab 3) (d_ ah))))
    (bh (vC (.str ("NoAsk":Str))))
    cG)
    (aL (iO (ay (ax (bj false) (ab 4) (d_ ah)))
    (eD (b7 mK (ab 3) ah))
    cG)
    (aL (eD (b7 rg (ab 4) ah))
    (bh (vC (.str ("back":Str)))))))))))))
noncomputable def dc:MX:=dA 3 4 (3::4::([5]++((([6]++(([]++[])++([]++[])))++[])++(((([]++[])++([6]++([]++[])))++[])++(([]++[])++(([]++[])++(([]++[])++(([]++[])++([]++[]))))))))) (i_)
theorem z3:au ["_law_web_here","_law_state","_law_line_here","_law_run","_law_waiting","_law_stand","_law_tie"] ["_law_web_here","_law_state","_law_line_here"] (ag tQ):=⟨rfl,rfl,rfl,by decide+kernel,rfl,by decide+kernel,by decide+kernel⟩
theorem Bw{P:MZ}{w:MV}{K:MS}{C:xM}{mg:Str→Option Kg}{base:MY}{f:xM}{fd:Nj}(h:dm K mg "_law_due" tQ f fd ["_law_web_here","_law_state","_law_line_here"])(T:b5 mg){Lf:xM}{Lg:Nj}(KL:dm K mg "_law_stand_of" fY Lf Lg ["_law_web_here","_law_run"])(KS:aA P w K mg base bY 2 Lf Lg ["_law_web_here","_law_run"] (di K 2 fK)){Lh:xM}{Li:Nj}(Kz:dm K mg "_law_row_text" fX Lh Li ["_law_numbers"])(KM:aA P w K mg base bY 1 Lh Li ["_law_numbers"] (di K 1 iE)){Lr:xM}{Ls:Nj}(KR:dm K mg "_law_askable" gZ Lr Ls ["_law_web_here","_law_stand"])(K0:aA P w K mg base bY 3 Lr Ls ["_law_web_here","_law_stand"] (di K 2 lI)){Md:xM}{Me:Nj}(Ly:dm K mg "_law_may" qi Md Me ["_law_web_here","_law_stand","_law_tie"])(LG:aA P w K mg base bY 2 Md Me ["_law_web_here","_law_stand","_law_tie"] (di K 3 jh)){L4:xM}{L5:Nj}(Lu:dm K mg "_law_kept" oI L4 L5 ["_law_web_here","_law_run"])(LA:aA P w K mg base bY 1 L4 L5 ["_law_web_here","_law_run"] (di K 2 uL)):aA P w K mg base bY 4 f fd ["_law_web_here","_law_state","_law_line_here"] (my K C 3 (dc)):=by
  have nd:=z3.nd
  exact h.F.okY z3 rfl rfl (fun cdv A outer s H E hr=>(@xC _ _ _ _ _ _ _ _ _ _ _ 1 3 4 _ _ _ _ rfl rfl (@aZ _ 1 _ _ (by rfl) (by first | exact Or.inl rfl | exact Or.inr (Or.inl rfl) | exact Or.inr (Or.inr rfl)) (by decide) (by decide)) nd rfl rfl (Or.inl rfl) (Or.inl rfl) (by trivial) (by trivial) (by rfl) (by rfl) (by rfl) (by rfl) (by rfl) (by rfl) (by rfl) (@af _ _ _ _ _ _ _ _ (@aG _ _ _ _ _ 5 _ _ nd rfl (Or.inl rfl) (@bA _ _ _ _ _ _ _ _ _ _ _ _ _ _ _ KL KS (hr.mono (by decide)) ((¬0)∘((¬3)∘ac)) (by rfl) (by decide) (by rfl) (by rfl)) (by rfl) (by trivial))
      (@af _ _ _ _ _ _ _ _ (@ck _ _ _ _ _ _ _ _ _ _ _ (@aI _ _ _ _ _ _ _ _ _ (@fj _ _ _ rfl hr) (@tM _ _ _ _ _ _ _ _ _ _ (¬2) (@iJ _ _) (@iK _ _ _ _ ae)) (@aJ _ _ _ _ _) (az _))
      (@af _ _ _ _ _ _ _ _ (@aG _ _ _ _ _ 6 _ _ nd rfl (Or.inl rfl) (@aT _ _ _ _ _ _ _ _ _ (@vx _ _) (by rfl) T.b_int ((@tM _ _ _ _ _ _ _ _ _ _ (¬2) (@iK _ _ _ _ ae) (@iJ _ _))∘ac) (by decide) (by decide) (by rfl) (by rfl)) (by rfl) (by trivial))
      (@af _ _ _ _ _ _ _ _ (@ck _ _ _ _ _ _ _ _ _ _ _ (@pH _ _ _ _ (@oC _ _ _ _ _ _ _ _ (@aI _ _ _ _ _ _ _ _ _ (@x8 _ _ _ rfl hr) (¬4) (@cz _ _ _ _ _ ac) (az _)) (@ka _ _ _ _ _ (@uY _ _ _ _ _ (@fU _ _ _ _ (@bA _ _ _ _ _ _ _ _ _ _ _ _ _ _ _ Ly LG (hr.mono (by decide)) ((¬0)∘((¬5)∘((¬6)∘ac))) (by rfl) (by decide) (by rfl) (by rfl)) (by intro _;rfl))))))
      (@aj _ _ _ _ _ (@aw _ _ _ _ _ (@aJ _ _ _ _ _)))
      (@a9 _ _))
      (@af _ _ _ _ _ _ _ _ (@eU _ _ _ _ _ (@fQ _ _ _ _ _ _ _ _ _ rfl (¬4) ((¬6)∘ac) (by rfl) (by rfl) (by rfl) (by rfl) (by rfl)) (by rfl))
      (@aj _ _ _ _ _ (@aw _ _ _ _ _ (@aJ _ _ _ _ _))))))
      (@a9 _ _))
      (@af _ _ _ _ _ _ _ _ (@ck _ _ _ _ _ _ _ _ _ _ _ (@pH _ _ _ _ (@oC _ _ _ _ _ _ _ _ (@aI _ _ _ _ _ _ _ _ _ (@fj _ _ _ rfl hr) (¬2) (@aJ _ _ _ _ _) (az _)) (@ka _ _ _ _ _ (@aI _ _ _ _ _ _ _ _ _ (@fj _ _ _ rfl hr) (¬2) (@aJ _ _ _ _ _) (az _)))))
      (@af _ _ _ _ _ _ _ _ (@ck _ _ _ _ _ _ _ _ _ _ _ (@aI _ _ _ _ _ _ _ _ _ (@fj _ _ _ rfl hr) (¬4) (@cz _ _ _ _ _ ac) (az _))
      (@aj _ _ _ _ _ (@aw _ _ _ _ _ (@aJ _ _ _ _ _)))
      (@a9 _ _))
      (@af _ _ _ _ _ _ _ _ (@aG _ _ _ _ _ 6 _ _ nd rfl (Or.inl rfl) (@C1 _ _ _ _ _ _ rfl (¬4) (by rfl) (by rfl)) (by rfl) (by trivial))
      (@af _ _ _ _ _ _ _ _ (@eU _ _ _ _ _ (@fQ _ _ _ _ _ _ _ _ _ rfl (¬3) ((@br _ _ _ _ _ _ ((¬6)∘((@mi _ _ _ _ _ _ _ _ _ (@fj _ _ _ rfl hr) (¬2) (@aJ _ _ _ _ _) (az _))∘ac)))∘ac) (by rfl) (by rfl) (by rfl) (by rfl) (by rfl)) (by rfl))
      (@aj _ _ _ _ _ (@aw _ _ _ _ _ (@ce _ _ _ _ _ _ _ rfl (@cz _ _ _ _ _ ((@aJ _ _ _ _ _)∘((@rH _ _ _ _ _ _ _ (@aJ _ _ _ _ _) (@aT _ _ _ _ _ _ _ _ _ (@b_str _ _) (by rfl) T.b_str ((@ce _ _ _ _ _ _ _ rfl (@ce _ _ _ _ _ _ _ rfl (@ce _ _ _ _ _ _ _ rfl (¬0) ae (fun _ _=>rfl)) (¬6) (fun _ _=>rfl)) ae (fun _ _=>rfl))∘ac) (by decide) (by decide) (by rfl) (by rfl)))∘ac))) (@aT _ _ _ _ _ _ _ _ _ (@b_int _ _) (by rfl) T.b_int ((@mi _ _ _ _ _ _ _ _ _ (@fj _ _ _ rfl hr) (¬2) (@aJ _ _ _ _ _) (az _))∘ac) (by decide) (by decide) (by rfl) (by rfl)) (fun _ _=>rfl)))))))
      (@a9 _ _))
      (@af _ _ _ _ _ _ _ _ (@ck _ _ _ _ _ _ _ _ _ _ _ (@aI _ _ _ _ _ _ _ _ _ (@fj _ _ _ rfl hr) (¬2) (@aJ _ _ _ _ _) (az _))
      (@aj _ _ _ _ _ (@aw _ _ _ _ _ (@bA _ _ _ _ _ _ _ _ _ _ _ _ _ _ _ Kz KM (hr.mono (by decide)) ((@bA _ _ _ _ _ _ _ _ _ _ _ _ _ _ _ KR K0 (hr.mono (by decide)) ((¬0)∘((¬5)∘ac)) (by rfl) (by decide) (by rfl) (by rfl))∘ac) (by rfl) (by decide) (by rfl) (by rfl))))
      (@a9 _ _))
      (@af _ _ _ _ _ _ _ _ (@ck _ _ _ _ _ _ _ _ _ _ _ (@aI _ _ _ _ _ _ _ _ _ (@fj _ _ _ rfl hr) (¬2) (@aJ _ _ _ _ _) (az _))
      (@aj _ _ _ _ _ (@aw _ _ _ _ _ (@rH _ _ _ _ _ _ _ (@rH _ _ _ _ _ _ _ (@bA _ _ _ _ _ _ _ _ _ _ _ _ _ _ _ Kz KM (hr.mono (by decide)) ((@dD _ _ _ _ _ _ _ _ _ _ _ _ _ [] ["_law_tie","_law_truth"] rfl rfl (@eL _ _ _ _ _ rfl (¬3))
        (fun C s0 H0 fp=>(@gD _ _ _ _ _ _ _ _ rfl rfl (@ba _ _ _ _ _ _ _ _ (@aF _ _ _ 0 _ (show Ou (["_law_tie","_law_truth"]:List Str) by decide+kernel) rfl (Or.inl rfl) (by trivial)) (@ba _ _ _ _ _ _ _ _ (@aF _ _ _ 1 _ (show Ou (["_law_tie","_law_truth"]:List Str) by decide+kernel) rfl (Or.inl rfl) (by trivial)) (@el _ _) (by rfl)) (by rfl)) (bx (bx gB)) (by rfl) (by rfl))) (fun C s0 H0 fp=>(@iM _ _ _ _ (@fU _ _ _ _ (¬1) (by intro _;rfl))))
        (fun C s0 H0 fp=>(¬0)) rfl (by rfl) (by intro _;rfl))∘ac) (by rfl) (by decide) (by rfl) (by rfl)) (@aJ _ _ _ _ _)) (@aT _ _ _ _ _ _ _ _ _ (@b_str _ _) (by rfl) T.b_str ((@bA _ _ _ _ _ _ _ _ _ _ _ _ _ _ _ Lu LA (hr.mono (by decide)) ((¬0)∘((¬3)∘ac)) (by rfl) (by decide) (by rfl) (by rfl))∘ac) (by decide) (by decide) (by rfl) (by rfl)))))
      (@a9 _ _))
      (@af _ _ _ _ _ _ _ _ (@ck _ _ _ _ _ _ _ _ _ _ _ (@pH _ _ _ _ (@uZ _ _ _ _ _ _ _ _ (@aI _ _ _ _ _ _ _ _ _ (@fj _ _ _ rfl hr) (¬4) (@cz _ _ _ _ _ ac) (az _)) (@rK _ _ _ _ _ (@aI _ _ _ _ _ _ _ _ _ (@fj _ _ _ rfl hr) (¬3) (@cz _ _ _ _ _ ac) (az _)))))
      (@aj _ _ _ _ _ (@aw _ _ _ _ _ (@aJ _ _ _ _ _)))
      (@a9 _ _))
      (@af _ _ _ _ _ _ _ _ (@ck _ _ _ _ _ _ _ _ _ _ _ (@aI _ _ _ _ _ _ _ _ _ (@fj _ _ _ rfl hr) (¬4) (@cz _ _ _ _ _ ac) (az _))
      (@aj _ _ _ _ _ (@eU _ _ _ _ _ (@C1 _ _ _ _ _ _ rfl (¬3) (by rfl) (by rfl)) (by rfl)))
      (@a9 _ _))
      (@af _ _ _ _ _ _ _ _ (@eU _ _ _ _ _ (@BY _ _ _ _ _ _ rfl (¬4) (by rfl) (by rfl)) (by rfl))
      (@aj _ _ _ _ _ (@aw _ _ _ _ _ (@aJ _ _ _ _ _)))))))))))))
noncomputable def qE:FS:=(aL (bi 3 (cR 1 bz (aa (ab 0) ah)))
    (aL (bi 4 (ax dM (ab 2) (ax bu (ab 3) (aB (g1 gb) (aa (ab 2) ah)))))
    (aL (iO (ay (ax (bj true) (ab 4) (vC (.str ("ask":Str)))))
    (bh (ab 4))
    cG)
    (aL (iO (ay (ax (bj false) (ax dM (ab 1) (vC (.int 1))) (cu ah)))
    (bh (vC (.str ("yes":Str))))
    cG)
    (bh (ax je (vC (.str ("ask ":Str))) (aB (g1 iC) (aa (ax bu (ax fx (ab 3) (vC (.int 64))) (aB (g1 gb) (aa (ax dM (ab 1) (vC (.int 1))) ah))) ah))))))))
noncomputable def jg:FM:=h8 3 2 ([3]++([4]++(([]++[])++(([]++[])++[])))) qE
theorem wo:au ["_law_drawn","_law_web_here","_law_menu","_law_number","_law_word"] ["_law_drawn","_law_web_here","_law_menu"] (ag oJ):=⟨rfl,rfl,rfl,by decide+kernel,rfl,by decide+kernel,by decide+kernel⟩
theorem Bs(h:dm K mg "_law_line" oJ f fd ["_law_drawn","_law_web_here","_law_menu"])(T:b5 mg)(zLnext:Cl P w K mg base "_law_next" jq ["_law_drawn"] 1 1 bz):aA P w K mg base bY 2 f fd ["_law_drawn","_law_web_here","_law_menu"] (di K 3 jg):=by
  obtain⟨Lp,Lq,Ks,Kt⟩:=zLnext
  have nd:=wo.nd
  exact h.fn wo rfl rfl (fun cdv A outer s H E hr=>(@af _ _ _ _ _ _ _ _ (@aG _ _ _ _ _ 3 _ _ nd rfl (Or.inl rfl) (@bA _ _ _ _ _ _ _ _ _ _ _ _ _ _ _ Ks Kt (hr.mono (by decide)) ((¬0)∘ac) (by rfl) (by decide) (by rfl) (by rfl)) (by rfl) (by trivial))
      (@af _ _ _ _ _ _ _ _ (@aG _ _ _ _ _ 4 _ _ nd rfl (Or.inl rfl) (@ce _ _ _ _ _ _ _ rfl (¬2) (@bo _ _ _ _ _ _ _ (¬3) (@aT _ _ _ _ _ _ _ _ _ (@b_len _ _ rfl) (by rfl) T.b_len ((¬2)∘ac) (by decide) (by decide) (by rfl) (by rfl))) (fun _ _=>rfl)) (by rfl) (by trivial))
      (@af _ _ _ _ _ _ _ _ (@ck _ _ _ _ _ _ _ _ _ _ _ (@aI _ _ _ _ _ _ _ _ _ (@x8 _ _ _ rfl hr) (¬4) (@aJ _ _ _ _ _) (az _))
      (@aj _ _ _ _ _ (@aw _ _ _ _ _ (¬4)))
      (@a9 _ _))
      (@af _ _ _ _ _ _ _ _ (@ck _ _ _ _ _ _ _ _ _ _ _ (@aI _ _ _ _ _ _ _ _ _ (@fj _ _ _ rfl hr) (@ce _ _ _ _ _ _ _ rfl (¬1) ae (fun _ _=>rfl)) (@br _ _ _ _ _ _ ac) (az _))
      (@aj _ _ _ _ _ (@aw _ _ _ _ _ (@aJ _ _ _ _ _)))
      (@a9 _ _))
      (@aj _ _ _ _ _ (@aw _ _ _ _ _ (@rH _ _ _ _ _ _ _ (@aJ _ _ _ _ _) (@aT _ _ _ _ _ _ _ _ _ (@b_str _ _) (by rfl) T.b_str ((@bo _ _ _ _ _ _ _ (@jn _ _ _ _ _ _ _ (¬3) ae) (@aT _ _ _ _ _ _ _ _ _ (@b_len _ _ rfl) (by rfl) T.b_len ((@ce _ _ _ _ _ _ _ rfl (¬1) ae (fun _ _=>rfl))∘ac) (by decide) (by decide) (by rfl) (by rfl)))∘ac) (by decide) (by decide) (by rfl) (by rfl))))))))))
noncomputable def bP:XS:=(bc (fV (ci (hV FK (bQ 0 "waiting") (aE (vC .none))))
    (bS (aE (vC (.str ("NoAsk":Str)))))
    dh)
    (bc (lg 2 (bQ 0 "waiting"))
    (bc (eN 0 "run" (hV cx (bQ 0 "run") (aE (cu (aa (cu (aa (ab 2) (aa (ab 1) ah))) ah)))))
    (bc (eN 0 "waiting" (aE (vC .none)))
    (bS (vh (gn (ay (ab 1))) (Al ("kept ":Str) (hV dM (hV dM (hV dM (bQ 0 "web") (aE (vC (.int 1)))) (aE (ab 2))) (aE (vC (.int 3))))) (aE (vC (.str ("gone":Str))))))))))
noncomputable def aM:MX:=dA 2 1 (([]++[])++([2]++([]++([]++[])))) (bP)
theorem eO:au ["self","truth","tie"] ["self","truth"] (ag cg):=⟨rfl,rfl,rfl,by decide+kernel,rfl,by decide+kernel,by decide+kernel⟩
theorem jm{P:MZ}{w:MV}{K:MS}{C:xM}{mg:Str→Option Kg}{base:MY}{f:xM}{fd:Nj}(hF:rS K "take_answer" "Desk.take_answer" cg f fd)(T:b5 mg)(cl:ph K C)(na_run:bB K C "run")(na_waiting:bB K C "waiting")(na_web:bB K C "web"):aA P w K mg base bY 1 f fd ["self","truth"] (my K C 2 (aM)):=by
  have nd:=eO.nd
  exact hF.okY eO rfl rfl (fun cdv A outer s H E hr=>(@aQ _ _ _ _ _ _ _ _ _ (@iL _ _ _ _ _ _ _ _ _ _ _ _ (@mV _ _ _ _ _ _ _ _ _ _ (@F_ _ _) (@bN _ _ _ _ 0 _ _ _ rfl cl na_waiting (@aZ _ 0 _ _ (by rfl) (by first | exact Or.inl rfl | exact Or.inr (Or.inl rfl) | exact Or.inr (Or.inr rfl)) (by decide) (by decide)) (by rfl)) (@av _ _ _ _ _ (@eK _ _ _ _)) (az _)) (@bg _ _ _ _ _ _ (@cF _ _ _ _ _ _ (@av _ _ _ _ _ (@aJ _ _ _ _ _)))) (@fR _ _ _))
       (@aQ _ _ _ _ _ _ _ _ _ (@rJ _ _ _ _ _ _ 2 _ _ nd rfl (Or.inl rfl) (@bN _ _ _ _ 0 _ _ _ rfl cl na_waiting (@aZ _ 0 _ _ (by rfl) (by first | exact Or.inl rfl | exact Or.inr (Or.inl rfl) | exact Or.inr (Or.inr rfl)) (by decide) (by decide)) (by rfl)) (by rfl) (by trivial))
       (@aQ _ _ _ _ _ _ _ _ _ (@gq _ _ _ _ _ _ 0 _ _ _ _ rfl cl na_run (@aZ _ 0 _ _ (by rfl) (by first | exact Or.inl rfl | exact Or.inr (Or.inl rfl) | exact Or.inr (Or.inr rfl)) (by decide) (by decide)) (@ES _ _ _ _ _ _ _ _ rfl (@bN _ _ _ _ 0 _ _ _ rfl cl na_run (@aZ _ 0 _ _ (by rfl) (by first | exact Or.inl rfl | exact Or.inr (Or.inl rfl) | exact Or.inr (Or.inr rfl)) (by decide) (by decide)) (by rfl)) (@av _ _ _ _ _ (@br _ _ _ _ _ _ ((@br _ _ _ _ _ _ ((¬2)∘((¬1)∘ac)))∘ac)))) (by rfl))
       (@aQ _ _ _ _ _ _ _ _ _ (@gq _ _ _ _ _ _ 0 _ _ _ _ rfl cl na_waiting (@aZ _ 0 _ _ (by rfl) (by first | exact Or.inl rfl | exact Or.inr (Or.inl rfl) | exact Or.inr (Or.inr rfl)) (by decide) (by decide)) (@av _ _ _ _ _ (@eK _ _ _ _)) (by rfl))
       (@bg _ _ _ _ _ _ (@cF _ _ _ _ _ _ (@qg _ _ _ _ _ _ _ _ _ _ (@gY _ _ _ _ _ (@fU _ _ _ _ (¬1) (by intro _;rfl))) (@GU _ _ _ _ _ _ _ _ _ _ (@zA _ _ _ _ _ _ _ _ rfl (@zA _ _ _ _ _ _ _ _ rfl (@zA _ _ _ _ _ _ _ _ rfl (@bN _ _ _ _ 0 _ _ _ rfl cl na_web (@aZ _ 0 _ _ (by rfl) (by first | exact Or.inl rfl | exact Or.inr (Or.inl rfl) | exact Or.inr (Or.inr rfl)) (by decide) (by decide)) (by rfl)) (@av _ _ _ _ _ ae) (fun _ _=>rfl)) (@av _ _ _ _ _ (¬2)) (fun _ _=>rfl)) (@av _ _ _ _ _ ae) (fun _ _=>rfl))) (@av _ _ _ _ _ (@aJ _ _ _ _ _))))))))))
noncomputable def km:XS:=(bc (fV (ci (hV j1 (bQ 0 "waiting") (aE (vC .none))))
    (eN 0 "waiting" (aE (vC .none)))
    (fV (ci (hV CK (rQ (g1 gb) (bX (bQ 0 "run") iX)) (aE (vC (.int 0)))))
    (eN 0 "run" (Fy (bQ 0 "run") none (some (-1))))
    (bS (aE (vC (.str ("NoAsk":Str)))))))
    (bS (aE (vC (.str ("back":Str))))))
noncomputable def dC:MX:=dA 1 0 (([]++([]++[]))++[]) (km)
theorem gr:au ["self"] ["self"] (ag cH):=⟨rfl,rfl,rfl,by decide+kernel,rfl,by decide+kernel,by decide+kernel⟩
theorem j7{P:MZ}{w:MV}{K:MS}{C:xM}{mg:Str→Option Kg}{base:MY}{f:xM}{fd:Nj}(hF:rS K "take_back" "Desk.take_back" cH f fd)(T:b5 mg)(cl:ph K C)(na_run:bB K C "run")(na_waiting:bB K C "waiting"):aA P w K mg base bY 1 f fd ["self"] (my K C 1 (dC)):=by
  have nd:=gr.nd
  exact hF.okY gr rfl rfl (fun cdv A outer s H E hr=>(@aQ _ _ _ _ _ _ _ _ _ (@iL _ _ _ _ _ _ _ _ _ _ _ _ (@mV _ _ _ _ _ _ _ _ _ _ (@qI _ _) (@bN _ _ _ _ 0 _ _ _ rfl cl na_waiting (@aZ _ 0 _ _ (by rfl) (by first | exact Or.inl rfl | exact Or.inr (Or.inl rfl) | exact Or.inr (Or.inr rfl)) (by decide) (by decide)) (by rfl)) (@av _ _ _ _ _ (@eK _ _ _ _)) (az _)) (@bg _ _ _ _ _ _ (@gq _ _ _ _ _ _ 0 _ _ _ _ rfl cl na_waiting (@aZ _ 0 _ _ (by rfl) (by first | exact Or.inl rfl | exact Or.inr (Or.inl rfl) | exact Or.inr (Or.inr rfl)) (by decide) (by decide)) (@av _ _ _ _ _ (@eK _ _ _ _)) (by rfl))) (@bg _ _ _ _ _ _ (@iL _ _ _ _ _ _ _ _ _ _ _ _ (@mV _ _ _ _ _ _ _ _ _ _ (@x6 _ _) (@ET _ _ _ _ _ _ _ _ _ (@b_len _ _ rfl) (by rfl) T.b_len (@jP _ _ _ _ _ _ _ (@bN _ _ _ _ 0 _ _ _ rfl cl na_run (@aZ _ 0 _ _ (by rfl) (by first | exact Or.inl rfl | exact Or.inr (Or.inl rfl) | exact Or.inr (Or.inr rfl)) (by decide) (by decide)) (by rfl)) (@kX _ _ _) (by rfl)) (by decide) (by decide) _ (by rfl) (by rfl)) (@av _ _ _ _ _ ae) (az _)) (@bg _ _ _ _ _ _ (@gq _ _ _ _ _ _ 0 _ _ _ _ rfl cl na_run (@aZ _ 0 _ _ (by rfl) (by first | exact Or.inl rfl | exact Or.inr (Or.inl rfl) | exact Or.inr (Or.inr rfl)) (by decide) (by decide)) (@zC _ _ _ _ _ _ _ _ _ none (some (-1)) rfl (@bN _ _ _ _ 0 _ _ _ rfl cl na_run (@aZ _ 0 _ _ (by rfl) (by first | exact Or.inl rfl | exact Or.inr (Or.inl rfl) | exact Or.inr (Or.inr rfl)) (by decide) (by decide)) (by rfl)) (@iJ _ _) (@iK _ _ _ _ (@GW _ _ _ _ _ ae))) (by rfl))) (@bg _ _ _ _ _ _ (@cF _ _ _ _ _ _ (@av _ _ _ _ _ (@aJ _ _ _ _ _)))))))
       (@bg _ _ _ _ _ _ (@cF _ _ _ _ _ _ (@av _ _ _ _ _ (@aJ _ _ _ _ _))))))
noncomputable def cC:XS:=(bc (fV (vk (ci (hV j1 (bQ 0 "waiting") (aE (vC .none)))) (jS (ci (o6 3 cD (bX (bQ 0 "web") (bX (o6 2 bH (bX (bQ 0 "web") (bX (bQ 0 "run") iX))) (bX (aE (ab 1)) iX)))))))
    (bS (aE (vC (.str ("NoAsk":Str)))))
    dh)
    (bc (eN 0 "waiting" (aE (ab 1)))
    (bS (aE (vC (.str ("asked":Str)))))))
noncomputable def a_:MX:=dA 2 0 (([]++[])++([]++[])) (cC)
theorem hJ:au ["self","tie"] ["self","tie"] (ag cX):=⟨rfl,rfl,rfl,by decide+kernel,rfl,by decide+kernel,by decide+kernel⟩
theorem kQ{P:MZ}{w:MV}{K:MS}{C:xM}{mg:Str→Option Kg}{base:MY}{f:xM}{fd:Nj}(hF:rS K "take_ask" "Desk.take_ask" cX f fd)(T:b5 mg){K_:xM}{K':Nj}(KC:dm K mg "may_ask" e_ K_ K' ["web","stand","tie"])(KJ:aA P w K mg base bY 4 K_ K' ["web","stand","tie"] (di K 3 cD)){KG:xM}{KH:Nj}(Kp:dm K mg "stand_of_run" bU KG KH ["web","run"])(Kq:aA P w K mg base bY 3 KG KH ["web","run"] (di K 2 bH))(cl:ph K C)(na_run:bB K C "run")(na_waiting:bB K C "waiting")(na_web:bB K C "web"):aA P w K mg base bY 5 f fd ["self","tie"] (my K C 2 (a_)):=by
  have nd:=hJ.nd
  exact hF.okY hJ rfl rfl (fun cdv A outer s H E hr=>(@aQ _ _ _ _ _ _ _ _ _ (@iL _ _ _ _ _ _ _ _ _ _ _ _ (@GZ _ _ _ _ _ (@E2 _ _ _ _ _ _ _ _ _ (@mV _ _ _ _ _ _ _ _ _ _ (@qI _ _) (@bN _ _ _ _ 0 _ _ _ rfl cl na_waiting (@aZ _ 0 _ _ (by rfl) (by first | exact Or.inl rfl | exact Or.inr (Or.inl rfl) | exact Or.inr (Or.inr rfl)) (by decide) (by decide)) (by rfl)) (@av _ _ _ _ _ (@eK _ _ _ _)) (az _)) (@B1 _ _ _ _ _ _ (@v_ _ _ _ _ _ _ (@wa _ _ _ _ _ (@EU _ _ _ _ _ _ _ _ _ _ _ _ _ _ _ _ KC KJ (hr.mono (by decide)) (@jP _ _ _ _ _ _ _ (@bN _ _ _ _ 0 _ _ _ rfl cl na_web (@aZ _ 0 _ _ (by rfl) (by first | exact Or.inl rfl | exact Or.inr (Or.inl rfl) | exact Or.inr (Or.inr rfl)) (by decide) (by decide)) (by rfl)) (@jP _ _ _ _ _ _ _ (@EU _ _ _ _ _ _ _ _ _ _ _ _ _ _ _ _ Kp Kq (hr.mono (by decide)) (@jP _ _ _ _ _ _ _ (@bN _ _ _ _ 0 _ _ _ rfl cl na_web (@aZ _ 0 _ _ (by rfl) (by first | exact Or.inl rfl | exact Or.inr (Or.inl rfl) | exact Or.inr (Or.inr rfl)) (by decide) (by decide)) (by rfl)) (@jP _ _ _ _ _ _ _ (@bN _ _ _ _ 0 _ _ _ rfl cl na_run (@aZ _ 0 _ _ (by rfl) (by first | exact Or.inl rfl | exact Or.inr (Or.inl rfl) | exact Or.inr (Or.inr rfl)) (by decide) (by decide)) (by rfl)) (@kX _ _ _) (by rfl)) (by rfl)) (by rfl) (by decide) (by rfl) (by rfl)) (@jP _ _ _ _ _ _ _ (@av _ _ _ _ _ (¬1)) (@kX _ _ _) (by rfl)) (by rfl)) (by rfl)) (by rfl) (by decide) (by rfl) (by rfl)) (by intro _;rfl)))))) (@bg _ _ _ _ _ _ (@cF _ _ _ _ _ _ (@av _ _ _ _ _ (@aJ _ _ _ _ _)))) (@fR _ _ _))
       (@aQ _ _ _ _ _ _ _ _ _ (@gq _ _ _ _ _ _ 0 _ _ _ _ rfl cl na_waiting (@aZ _ 0 _ _ (by rfl) (by first | exact Or.inl rfl | exact Or.inr (Or.inl rfl) | exact Or.inr (Or.inr rfl)) (by decide) (by decide)) (@av _ _ _ _ _ (¬1)) (by rfl))
       (@bg _ _ _ _ _ _ (@cF _ _ _ _ _ _ (@av _ _ _ _ _ (@aJ _ _ _ _ _)))))))
def HQ:List Str:=["may","best","bound","kept"]
noncomputable def qs:List (Str × FM):=[("may",j6),("kept",jj)]
noncomputable def gh:XS:=(bc (fV (gn (lW (ay (uh (xa "str") (ab 1)))))
    (bS (aE (vC (.str ("NoWord":Str)))))
    dh)
    (bc (fV (gn (ay (ax (uj false) (ab 1) (cu (aa (vC (.str ("yes":Str))) (aa (vC (.str ("no":Str))) ah))))))
    (bS (bW 2 aM (lV 0 "take_answer" (dJ (aE (ax (bj false) (ab 1) (vC (.str ("yes":Str))))) eP))))
    dh)
    (bc (fV (gn (ay (ax (bj false) (ab 1) (vC (.str ("back":Str))))))
    (bS (bW 1 dC (lV 0 "take_back" eP)))
    dh)
    (bc (fV (gn (B' HQ (ab 1)))
    (zX 0 1 2 qs)
    dh)
    (bc (lg 3 (o6 2 dB (bX (bQ 0 "web") (bX (aE (ab 1)) iX))))
    (bS (vh (gn (ay (ax FK (ab 3) (vC .none)))) (aE (vC (.str ("NoWord":Str)))) (bW 2 a_ (lV 0 "take_ask" (dJ (aE (ab 3)) eP))))))))))
noncomputable def bM:MX:=dA 2 2 (([]++[])++(([]++[])++(([]++[])++(([2]++[])++([3]++[]))))) (gh)
theorem mq:au ["self","line","question","tie"] ["self","line"] (ag iP):=⟨rfl,rfl,rfl,by decide+kernel,rfl,by decide+kernel,by decide+kernel⟩
theorem rA{P:MZ}{w:MV}{K:MS}{C:xM}{mg:Str→Option Kg}{base:MY}{f:xM}{fd:Nj}(hF:rS K "say" "Desk.say" iP f fd)(T:b5 mg){K2:xM}{K3:Nj}(Kx:dm K mg "tie_to_ask" dG K2 K3 ["web","line"])(KF:aA P w K mg base bY 2 K2 K3 ["web","line"] (di K 2 dB)){f_Desk_take_answer:xM}{e_Desk_take_answer:Nj}(me_Desk_take_answer:ly K C "take_answer" f_Desk_take_answer)(B_Desk_take_answer:dq K e_Desk_take_answer ["self","truth"] [])(G_Desk_take_answer:aA P w K mg base bY 1 f_Desk_take_answer e_Desk_take_answer ["self","truth"] (my K C 2 aM)){f_Desk_take_back:xM}{e_Desk_take_back:Nj}(me_Desk_take_back:ly K C "take_back" f_Desk_take_back)(B_Desk_take_back:dq K e_Desk_take_back ["self"] [])(G_Desk_take_back:aA P w K mg base bY 1 f_Desk_take_back e_Desk_take_back ["self"] (my K C 1 dC)){KU:xM}{Lj:Nj}(KA:dm K mg "may_line" fZ KU Lj ["web","run"])(KW:aA P w K mg base bY 6 KU Lj ["web","run"] (di K 2 j6)){KP:xM}{Lb:Nj}(Kv:dm K mg "kept_line" eE KP Lb ["web","run"])(KQ:aA P w K mg base bY 3 KP Lb ["web","run"] (di K 2 jj)){f_Desk_take_ask:xM}{e_Desk_take_ask:Nj}(me_Desk_take_ask:ly K C "take_ask" f_Desk_take_ask)(B_Desk_take_ask:dq K e_Desk_take_ask ["self","tie"] [])(G_Desk_take_ask:aA P w K mg base bY 5 f_Desk_take_ask e_Desk_take_ask ["self","tie"] (my K C 2 a_))(cl:ph K C)(na_run:bB K C "run")(na_web:bB K C "web"){qa:xM}{ms:List (Str × xM)}(TQ:FH K w qa ms)(hks:ms.map (·.1)=HQ)(mQ:mg "QUESTIONS"=some (.ref qa))(a_may:ms.lookup ("may":Str)=some KU)(a_kept:ms.lookup ("kept":Str)=some KP):aA P w K mg base bY 7 f fd ["self","line"] (my K C 2 (bM)):=by
  have nd:=mq.nd
  exact hF.okY mq rfl rfl (fun cdv A outer s H E hr=>have hQ:∀(u:Str) (m:FM),qs.lookup u=some m→∃f,ms.lookup u=some f∧Ij _ 6 f m:=(fun u m hm=>by
      unfold qs at hm
      rw [NP] at hm
      by_cases c0:u="may"
      · subst c0;rw [show(("may":Str)=="may")=true from by decide] at hm;cases hm;exact⟨KU,a_may,_,_,KW.mono (by decide),KA.b,KA.F.kp⟩
      rw [show(u=="may")=false from beq_eq_false_iff_ne.mpr c0] at hm
      rw [NP] at hm
      by_cases c1:u="kept"
      · subst c1;rw [show(("kept":Str)=="kept")=true from by decide] at hm;cases hm;exact⟨KP,a_kept,_,_,KQ.mono (by decide),Kv.b,Kv.F.kp⟩
      rw [show(u=="kept")=false from beq_eq_false_iff_ne.mpr c1] at hm
      cases hm)
    (@aQ _ _ _ _ _ _ _ _ _ (@iL _ _ _ _ _ _ _ _ _ _ _ _ (@gY _ _ _ _ _ (@uY _ _ _ _ _ (@fU _ _ _ _ (@C0 _ _ _ _ _ _ _ _ "str" rfl (by decide) rfl T.b_isinstance rfl T.b_str QV (by decide) (by decide) (¬1) (by rfl) (by rfl)) (by intro _;rfl)))) (@bg _ _ _ _ _ _ (@cF _ _ _ _ _ _ (@av _ _ _ _ _ (@aJ _ _ _ _ _)))) (@fR _ _ _))
       (@aQ _ _ _ _ _ _ _ _ _ (@iL _ _ _ _ _ _ _ _ _ _ _ _ (@gY _ _ _ _ _ (@aI _ _ _ _ _ _ _ _ _ (@wL _ _ _ rfl hr) (¬1) (@br _ _ _ _ _ _ ((@aJ _ _ _ _ _)∘((@aJ _ _ _ _ _)∘ac))) (by with_unfolding_all rfl))) (@bg _ _ _ _ _ _ (@cF _ _ _ _ _ _ (@rG _ _ _ _ _ _ _ _ _ 0 _ _ _ _ _ _ _ _ _ rfl (@aZ _ 0 _ _ (by rfl) (by first | exact Or.inl rfl | exact Or.inr (Or.inl rfl) | exact Or.inr (Or.inr rfl)) (by decide) (by decide)) cl me_Desk_take_answer G_Desk_take_answer (hr.mono (by decide)) B_Desk_take_answer (@oE _ _ _ _ _ _ _ (@av _ _ _ _ _ (@mi _ _ _ _ _ _ _ _ _ (@fj _ _ _ rfl hr) (¬1) (@aJ _ _ _ _ _) (az _))) (@k7 _ _ _) (by rfl)) (by rfl) (by rfl) (by rfl)))) (@fR _ _ _))
       (@aQ _ _ _ _ _ _ _ _ _ (@iL _ _ _ _ _ _ _ _ _ _ _ _ (@gY _ _ _ _ _ (@aI _ _ _ _ _ _ _ _ _ (@fj _ _ _ rfl hr) (¬1) (@aJ _ _ _ _ _) (az _))) (@bg _ _ _ _ _ _ (@cF _ _ _ _ _ _ (@zB _ _ _ _ _ _ 0 _ _ _ _ _ _ _ _ _ rfl (@aZ _ 0 _ _ (by rfl) (by first | exact Or.inl rfl | exact Or.inr (Or.inl rfl) | exact Or.inr (Or.inr rfl)) (by decide) (by decide)) cl me_Desk_take_back G_Desk_take_back (hr.mono (by decide)) B_Desk_take_back (by rfl)))) (@fR _ _ _))
       (@aQ _ _ _ _ _ _ _ _ _ (@iL _ _ _ _ _ _ _ _ _ _ _ _ (@gY _ _ _ _ _ (@E1 _ _ _ _ _ _ _ _ _ _ rfl TQ hks (¬1) rfl mQ (by decide) (by with_unfolding_all rfl))) (@zK _ _ _ _ _ _ _ _ 0 1 2 _ _ _ _ _ _ _ _ _ _ _ _ rfl TQ hr hQ rfl mQ (by decide) (@aZ _ 1 _ _ (by rfl) (by first | exact Or.inl rfl | exact Or.inr (Or.inl rfl) | exact Or.inr (Or.inr rfl)) (by decide) (by decide)) nd rfl (Or.inl rfl) (by rfl) (by trivial) (@aZ _ 2 _ _ (by rfl) (by first | exact Or.inl rfl | exact Or.inr (Or.inl rfl) | exact Or.inr (Or.inr rfl)) (by decide) (by decide)) (@jP _ _ _ _ _ _ _ (@bN _ _ _ _ 0 _ _ _ rfl cl na_web (@aZ _ 0 _ _ (by rfl) (by first | exact Or.inl rfl | exact Or.inr (Or.inl rfl) | exact Or.inr (Or.inr rfl)) (by decide) (by decide)) (by rfl)) (@jP _ _ _ _ _ _ _ (@bN _ _ _ _ 0 _ _ _ rfl cl na_run (@aZ _ 0 _ _ (by rfl) (by first | exact Or.inl rfl | exact Or.inr (Or.inl rfl) | exact Or.inr (Or.inr rfl)) (by decide) (by decide)) (by rfl)) (@kX _ _ _) (by rfl)) (by rfl)) (by rfl) (by rfl)) (@fR _ _ _))
       (@aQ _ _ _ _ _ _ _ _ _ (@rJ _ _ _ _ _ _ 3 _ _ nd rfl (Or.inl rfl) (@EU _ _ _ _ _ _ _ _ _ _ _ _ _ _ _ _ Kx KF (hr.mono (by decide)) (@jP _ _ _ _ _ _ _ (@bN _ _ _ _ 0 _ _ _ rfl cl na_web (@aZ _ 0 _ _ (by rfl) (by first | exact Or.inl rfl | exact Or.inr (Or.inl rfl) | exact Or.inr (Or.inr rfl)) (by decide) (by decide)) (by rfl)) (@jP _ _ _ _ _ _ _ (@av _ _ _ _ _ (¬1)) (@kX _ _ _) (by rfl)) (by rfl)) (by rfl) (by decide) (by rfl) (by rfl)) (by rfl) (by trivial))
       (@bg _ _ _ _ _ _ (@cF _ _ _ _ _ _ (@qg _ _ _ _ _ _ _ _ _ _ (@gY _ _ _ _ _ (@aI _ _ _ _ _ _ _ _ _ (@F_ _ _) (¬3) (@eK _ _ _ _) (az _))) (@av _ _ _ _ _ (@aJ _ _ _ _ _)) (@rG _ _ _ _ _ _ _ _ _ 0 _ _ _ _ _ _ _ _ _ rfl (@aZ _ 0 _ _ (by rfl) (by first | exact Or.inl rfl | exact Or.inr (Or.inl rfl) | exact Or.inr (Or.inr rfl)) (by decide) (by decide)) cl me_Desk_take_ask G_Desk_take_ask (hr.mono (by decide)) B_Desk_take_ask (@oE _ _ _ _ _ _ _ (@av _ _ _ _ _ (¬3)) (@k7 _ _ _) (by rfl)) (by rfl) (by rfl) (by rfl)))))))))))
noncomputable def vy:XS:=(bc (lg 3 (bW 2 bM (lV 0 "say" (dJ (aE (ab 1)) eP))))
    (bS (aE (js (uh (xa "str") (ab 3)) (ax (bj false) (ab 3) (ab 2))))))
noncomputable def iH:MX:=dA 3 1 ([3]++[]) (vy)
theorem ww:au ["_law_desk","_law_line_here","_law_due_here","_law_found"] ["_law_desk","_law_line_here","_law_due_here"] (ag oM):=⟨rfl,rfl,rfl,by decide+kernel,rfl,by decide+kernel,by decide+kernel⟩
theorem y_{P:MZ}{w:MV}{K:MS}{C:xM}{mg:Str→Option Kg}{base:MY}{f:xM}{fd:Nj}(h:dm K mg "_law_told" oM f fd ["_law_desk","_law_line_here","_law_due_here"])(T:b5 mg){f_Desk_say:xM}{e_Desk_say:Nj}(me_Desk_say:ly K C "say" f_Desk_say)(B_Desk_say:dq K e_Desk_say ["self","line"] [])(G_Desk_say:aA P w K mg base bY 7 f_Desk_say e_Desk_say ["self","line"] (my K C 2 bM))(cl:ph K C):aA P w K mg base bY 8 f fd ["_law_desk","_law_line_here","_law_due_here"] (my K C 3 (iH)):=by
  have nd:=ww.nd
  exact h.F.okY ww rfl rfl (fun cdv A outer s H E hr=>(@aQ _ _ _ _ _ _ _ _ _ (@rJ _ _ _ _ _ _ 3 _ _ nd rfl (Or.inl rfl) (@rG _ _ _ _ _ _ _ _ _ 0 _ _ _ _ _ _ _ _ _ rfl (@aZ _ 0 _ _ (by rfl) (by first | exact Or.inl rfl | exact Or.inr (Or.inl rfl) | exact Or.inr (Or.inr rfl)) (by decide) (by decide)) cl me_Desk_say G_Desk_say (hr.mono (by decide)) B_Desk_say (@oE _ _ _ _ _ _ _ (@av _ _ _ _ _ (¬1)) (@k7 _ _ _) (by rfl)) (by rfl) (by rfl) (by rfl)) (by rfl) (by trivial))
       (@bg _ _ _ _ _ _ (@cF _ _ _ _ _ _ (@av _ _ _ _ _ (@zF _ _ _ _ _ _ _ _ (@C0 _ _ _ _ _ _ _ _ "str" rfl (by decide) rfl T.b_isinstance rfl T.b_str QV (by decide) (by decide) (¬3) (by rfl) (by rfl)) (@zI _ _ _ _ _ _ (@mi _ _ _ _ _ _ _ _ _ (@fj _ _ _ rfl hr) (¬3) (¬2) (az _)))))))))
noncomputable def gL:XS:=(bc (eN 0 "web" (aE (ab 1)))
    (bc (eN 0 "run" (aE (cu ah)))
    (eN 0 "waiting" (aE (vC .none)))))
noncomputable def aV:MX:=dA 2 0 ([]++([]++[])) (gL)
theorem hE:au ["self","web"] ["self","web"] (ag cW):=⟨rfl,rfl,rfl,by decide+kernel,rfl,by decide+kernel,by decide+kernel⟩
theorem kP{P:MZ}{w:MV}{K:MS}{C:xM}{mg:Str→Option Kg}{base:MY}{f:xM}{fd:Nj}(hF:rS K "__init__" "Desk.__init__" cW f fd)(T:b5 mg)(cl:ph K C)(na_run:bB K C "run")(na_waiting:bB K C "waiting")(na_web:bB K C "web"):aA P w K mg base bY 1 f fd ["self","web"] (my K C 2 (aV)):=by
  have nd:=hE.nd
  exact hF.okY hE rfl rfl (fun cdv A outer s H E hr=>(@aQ _ _ _ _ _ _ _ _ _ (@gq _ _ _ _ _ _ 0 _ _ _ _ rfl cl na_web (@aZ _ 0 _ _ (by rfl) (by first | exact Or.inl rfl | exact Or.inr (Or.inl rfl) | exact Or.inr (Or.inr rfl)) (by decide) (by decide)) (@av _ _ _ _ _ (¬1)) (by rfl))
       (@aQ _ _ _ _ _ _ _ _ _ (@gq _ _ _ _ _ _ 0 _ _ _ _ rfl cl na_run (@aZ _ 0 _ _ (by rfl) (by first | exact Or.inl rfl | exact Or.inr (Or.inl rfl) | exact Or.inr (Or.inr rfl)) (by decide) (by decide)) (@av _ _ _ _ _ (@br _ _ _ _ _ _ ac)) (by rfl))
       (@bg _ _ _ _ _ _ (@gq _ _ _ _ _ _ 0 _ _ _ _ rfl cl na_waiting (@aZ _ 0 _ _ (by rfl) (by first | exact Or.inl rfl | exact Or.inr (Or.inl rfl) | exact Or.inr (Or.inr rfl)) (by decide) (by decide)) (@av _ _ _ _ _ (@eK _ _ _ _)) (by rfl))))))
noncomputable def ID:FI:=(cV (aa (vC (.int 50)) ah))
noncomputable def FY:XS:=(bc (de [7] (bi 7 (cR 3 jg (aa (ab 1) (aa (ab 3) (aa (d_ (aa (vC (.str ("ask":Str))) (aa (vC (.str ("yes":Str))) (aa (vC (.str ("ask":Str))) (aa (vC (.str ("no":Str))) (aa (vC (.str ("ask":Str))) (aa (vC (.str ("no":Str))) (aa (vC (.str ("ask":Str))) ah)))))))) ah))))))
    (bc (de [8] (bi 8 (aB (g1 pz) (aa (ax (bj false) (ax bu (cR 1 bz (aa (ab 1) ah)) (vC (.int 5))) (vC (.int 0))) ah))))
    (fV (jS (ci (bW 3 iH (ud 4 (ab 8) (dJ (aE (ab 7)) (dJ (bW 3 dc (dJ (aE (ab 3)) (ud 5 (ab 8) (dJ (aE (ab 7)) eP)))) eP))))))
    (bS (aE (vC (.bool false))))
    dh)))
noncomputable def IE:FI:=(cV (aa (vC (.int 3)) ah))
noncomputable def FZ:XS:=(bc (de [3] (bi 3 (cR 3 p_ (aa (ab 1) (aa (vC (.int 12)) (aa (vC (.int 16)) ah))))))
    (bc (tT 4 (gT (CV aV (aE (ab 3))) (gT (CV aV (aE (ab 3))) xl)))
    (bc (tT 5 (gT Eh (gT Eh xl)))
    (mj [6] ID (am 6) FY))))
noncomputable def qH:XS:=(bc (de [1] (bi 1 (cR 1 jE (aa (ab 0) ah))))
    (bc (mj [2] IE (am 2) FZ)
    (bS (aE (vC (.bool true))))))
noncomputable def lL:MX:=dA 1 8 ([1]++(([2]++([3]++([4]++([5]++([6]++([7]++([8]++([]++[]))))))))++[])) (qH)
theorem z8:au ["_law_script","_law_drawn","_law_turn","_law_web_here","_law_desks","_law_states","_law_again","_law_line_here","_law_which"] ["_law_script"] (ag oO):=⟨rfl,rfl,rfl,by decide+kernel,rfl,by decide+kernel,by decide+kernel⟩
theorem Bx{P:MZ}{w:MV}{K:MS}{C:xM}{mg:Str→Option Kg}{base:MY}{f:xM}{fd:Nj}(h:dm K mg "law" oO f fd ["_law_script"])(T:b5 mg){LP:xM}{LQ:Nj}(Ld:dm K mg "_law_draws" k9 LP LQ ["_law_script"])(Lm:aA P w K mg base bY 2 LP LQ ["_law_script"] (di K 1 jE)){Mo:xM}{Mp:Nj}(LR:dm K mg "_law_web" tU Mo Mp ["_law_drawn","_law_most","_law_ties_here"])(LZ:aA P w K mg base bY 5 Mo Mp ["_law_drawn","_law_most","_law_ties_here"] (di K 3 p_)){f_Desk___init__:xM}{e_Desk___init__:Nj}(MK:Mk K C f_Desk___init__)(mC:mg "Desk"=some (.ref C))(B_Desk___init__:dq K e_Desk___init__ ["self","web"] [])(G_Desk___init__:aA P w K mg base bY 1 f_Desk___init__ e_Desk___init__ ["self","web"] (my K C 2 aV)){L6:xM}{L7:Nj}(Lv:dm K mg "_law_line" oJ L6 L7 ["_law_drawn","_law_web_here","_law_menu"])(LB:aA P w K mg base bY 2 L6 L7 ["_law_drawn","_law_web_here","_law_menu"] (di K 3 jg)){L8:xM}{L9:Nj}(LC:dm K mg "_law_told" oM L8 L9 ["_law_desk","_law_line_here","_law_due_here"])(LS:aA P w K mg base bY 8 L8 L9 ["_law_desk","_law_line_here","_law_due_here"] (my K C 3 iH)){Mq:xM}{Mr:Nj}(L0:dm K mg "_law_due" tQ Mq Mr ["_law_web_here","_law_state","_law_line_here"])(Mf:aA P w K mg base bY 4 Mq Mr ["_law_web_here","_law_state","_law_line_here"] (my K C 3 dc)){Lp:xM}{Lq:Nj}(Ks:dm K mg "_law_next" jq Lp Lq ["_law_drawn"])(Kt:aA P w K mg base bY 1 Lp Lq ["_law_drawn"] (di K 1 bz))(cl:ph K C):aA P w K mg base bY 9 f fd ["_law_script"] (my K C 1 (lL)):=by
  have nd:=z8.nd
  exact h.F.okY z8 rfl rfl (fun cdv A outer s H E hr=>(@aQ _ _ _ _ _ _ _ _ _ (@kZ _ _ _ _ _ _ (@aG _ _ _ _ _ 1 _ _ nd rfl (Or.inl rfl) (@bA _ _ _ _ _ _ _ _ _ _ _ _ _ _ _ Ld Lm (hr.mono (by decide)) ((¬0)∘ac) (by rfl) (by decide) (by rfl) (by rfl)) (by rfl) (by trivial)))
       (@aQ _ _ _ _ _ _ _ _ _ (@v0 _ _ _ _ _ _ _ _ _ _ _ _ OK rfl (@dg _ _ _ _ _ _ _ rfl T.b_range (ae∘ac) (by rfl)) (@aF _ _ _ 2 _ nd rfl (Or.inl rfl) (by trivial)) (@aQ _ _ _ _ _ _ _ _ _ (@kZ _ _ _ _ _ _ (@aG _ _ _ _ _ 3 _ _ nd rfl (Or.inl rfl) (@bA _ _ _ _ _ _ _ _ _ _ _ _ _ _ _ LR LZ (hr.mono (by decide)) ((¬1)∘(ae∘(ae∘ac))) (by rfl) (by decide) (by rfl) (by rfl)) (by rfl) (by trivial)))
       (@aQ _ _ _ _ _ _ _ _ _ (@tO _ _ _ _ _ _ 4 _ _ _ nd rfl (Or.inl rfl) (@vY _ _ _ _ _ _ _ (@vX _ _ _ _ _ _ _ _ _ _ _ _ _ rfl MK G_Desk___init__ (hr.mono (by decide)) rfl mC B_Desk___init__ (@av _ _ _ _ _ (¬3)) (by rfl) (by decide) (by rfl) (by rfl)) (@vY _ _ _ _ _ _ _ (@vX _ _ _ _ _ _ _ _ _ _ _ _ _ rfl MK G_Desk___init__ (hr.mono (by decide)) rfl mC B_Desk___init__ (@av _ _ _ _ _ (¬3)) (by rfl) (by decide) (by rfl) (by rfl)) (@vZ _ _ _) (by rfl)) (by rfl)) (by rfl) (by trivial))
       (@aQ _ _ _ _ _ _ _ _ _ (@tO _ _ _ _ _ _ 5 _ _ _ nd rfl (Or.inl rfl) (@vY _ _ _ _ _ _ _ (@tN _ _ _ _ _ _ _) (@vY _ _ _ _ _ _ _ (@tN _ _ _ _ _ _ _) (@vZ _ _ _) (by rfl)) (by rfl)) (by rfl) (by trivial))
       (@bg _ _ _ _ _ _ (@v0 _ _ _ _ _ _ _ _ _ _ _ _ OK rfl (@dg _ _ _ _ _ _ _ rfl T.b_range (ae∘ac) (by rfl)) (@aF _ _ _ 6 _ nd rfl (Or.inl rfl) (by trivial)) (@aQ _ _ _ _ _ _ _ _ _ (@kZ _ _ _ _ _ _ (@aG _ _ _ _ _ 7 _ _ nd rfl (Or.inl rfl) (@bA _ _ _ _ _ _ _ _ _ _ _ _ _ _ _ Lv LB (hr.mono (by decide)) ((¬1)∘((¬3)∘((@cz _ _ _ _ _ ((@aJ _ _ _ _ _)∘((@aJ _ _ _ _ _)∘((@aJ _ _ _ _ _)∘((@aJ _ _ _ _ _)∘((@aJ _ _ _ _ _)∘((@aJ _ _ _ _ _)∘((@aJ _ _ _ _ _)∘ac))))))))∘ac))) (by rfl) (by decide) (by rfl) (by rfl)) (by rfl) (by trivial)))
       (@aQ _ _ _ _ _ _ _ _ _ (@kZ _ _ _ _ _ _ (@aG _ _ _ _ _ 8 _ _ nd rfl (Or.inl rfl) (@aT _ _ _ _ _ _ _ _ _ (@b_int _ _) (by rfl) T.b_int ((@mi _ _ _ _ _ _ _ _ _ (@fj _ _ _ rfl hr) (@bo _ _ _ _ _ _ _ (@bA _ _ _ _ _ _ _ _ _ _ _ _ _ _ _ Ks Kt (hr.mono (by decide)) ((¬1)∘ac) (by rfl) (by decide) (by rfl) (by rfl)) ae) ae (az _))∘ac) (by decide) (by decide) (by rfl) (by rfl)) (by rfl) (by trivial)))
       (@bg _ _ _ _ _ _ (@iL _ _ _ _ _ _ _ _ _ _ _ _ (@v_ _ _ _ _ _ _ (@wa _ _ _ _ _ (@vU _ _ _ _ _ _ _ _ _ _ _ _ _ _ _ _ LC LS (hr.mono (by decide)) (@zS _ _ _ _ _ _ _ _ _ 4 rfl (@aZ _ 4 _ _ (by rfl) (by first | exact Or.inl rfl | exact Or.inr (Or.inl rfl) | exact Or.inr (Or.inr rfl)) (by decide) (by decide)) (¬8) (fun _ _=>rfl) (@oE _ _ _ _ _ _ _ (@av _ _ _ _ _ (¬7)) (@oE _ _ _ _ _ _ _ (@vU _ _ _ _ _ _ _ _ _ _ _ _ _ _ _ _ L0 Mf (hr.mono (by decide)) (@oE _ _ _ _ _ _ _ (@av _ _ _ _ _ (¬3)) (@zS _ _ _ _ _ _ _ _ _ 5 rfl (@aZ _ 5 _ _ (by rfl) (by first | exact Or.inl rfl | exact Or.inr (Or.inl rfl) | exact Or.inr (Or.inr rfl)) (by decide) (by decide)) (¬8) (fun _ _=>rfl) (@oE _ _ _ _ _ _ _ (@av _ _ _ _ _ (¬7)) (@k7 _ _ _) (by rfl)) (by rfl)) (by rfl)) (by rfl) (by decide) (by rfl) (by rfl)) (@k7 _ _ _) (by rfl)) (by rfl)) (by rfl)) (by rfl) (by decide) (by rfl) (by rfl)) (by intro _;rfl))) (@bg _ _ _ _ _ _ (@cF _ _ _ _ _ _ (@av _ _ _ _ _ (@qh _ _ _ _ _)))) (@fR _ _ _))))) (by intro _;rfl)))))) (by intro _;rfl))
       (@bg _ _ _ _ _ _ (@cF _ _ _ _ _ _ (@av _ _ _ _ _ (@qh _ _ _ _ _)))))))
noncomputable def sZ:FM:=yM lL
local macro_rules | `(tactic| simp? [$ts,*]) => `(tactic| simp [$ts,*, h8, jN, aL, iO, bh, cG, bi, eD, k8, pJ, rF, ay, ax, uh, ab, vC, d_, ah, aa, cu, aB, cR, lU, uf, lW, xP, js, vj, o8, wD, gp, fN, b7, bK, mK, fL, gj, gM, cZ, cq, qR, rW, cK, aS, am, cm, b_, aH, bf, rj, du, fw, c_, ip, iA, iy, iu, ir, fB, fy, fC, dU, fm, nL, gO, j2, nM, j5, iz, j3, j4, fF, fD, dX, fH, nR, jW, ff, i6, i7, ng, dS, dQ, eu, iw, Nk, -Oe, -ND, -Pb, -Pd, -Nv, -NZ, -getElem?_pos, -OC, nG, nF, nA, ny, nD, nE, nB, nH])
theorem As{n k:Int}(h:0 < k):0≤n % k:=Qd _ (Int.ne_of_gt h)
theorem Au{n k:Int}(h:0 < k):n % k < k:=Qe _ h
def nx:List Int→Int
  | []=>0
  | d::_=>d
def iY(ds:List Int):Prop:=∀d∈ds,0≤d∧d < 2147483648
theorem yZ{ds:List Int}(h:iY ds):0≤nx ds∧nx ds < 2147483648:=by
  cases ds with
  | nil=>exact⟨Int.le_refl 0,by show(0:Int) < 2147483648;decide⟩
  | cons d r=>exact h d (by simp)
theorem Hx{ds:List Int}(h:iY ds):iY ds.tail:=fun d hd=>h d (QY hd)
theorem vc(ds:List Int):bz [.l (ds.map .int)]=some (.d (.int (nx ds)),[.l (ds.tail.map .int)]):=by
  have hq:∀e:En,e[0]?=some (some (.l (ds.map .int)))→bj false e (.s 0) (.l [])=some (.d (.bool (ds.map PyData.int).isEmpty)):=fun e he=>sL he (mw ds).1
  cases ds with
  | nil=>simp? [bz,uo,hq,nx]
  | cons d r=>simp? [bz,uo,hq,nx]
theorem lS{ds:List Int}(hd:iY ds):∃(n:Int) (ds':List Int),bz [.l (ds.map .int)]=some (.d (.int n),[.l (ds'.map .int)])∧0≤n∧n < 2147483648∧iY ds':=⟨nx ds,ds.tail,vc ds,(yZ hd).1,(yZ hd).2,Hx hd⟩
theorem wB(cell k:Int)(h0:0≤k)(h1:k≤1000):∃r,jF [.d (.int cell),.d (.int k)]=some (.d (.int r),[.d (.int cell),.d (.int k)])∧0≤r∧r < 2147483648:=by
  have a1:lK (cell % 2147483647) 48271=true:=ri (by decide) (by decide)
  have a2:lK 7919 k=true:=yR (by decide) (by decide)
  have a3:lK (7919*k) k=true:=ri (by lia) (by lia)
  have a4:lK ((cell % 2147483647*48271+7919*k*k+104729) % 2147483647) ((cell % 2147483647*48271+7919*k*k+104729) % 2147483647)=true:=ri (by lia) (by lia)
  refine⟨_,by simp? [jF,vt,aW,nQ,a1,a2,a3,a4];rfl,?_,?_⟩
  · lia
  · lia
theorem qO{ds:List Int}(h:iY ds){r:Int}(h0:0≤r)(h1:r < 2147483648):iY (ds++[r]):=fun d hd=>by
  rcases MO hd with hd | hd
  · exact h d hd
  · simp at hd;subst hd;exact⟨h0,h1⟩
abbrev dE(ns ds:List Int)(v2 v3 v4:Option Sv):En:=[some (.d (.list (ns.map .int))),some (.l (ds.map .int)),v2,v3,v4]
inductive DI (ns:List Int) (i:Nat):En→Prop
  | mk {ds v2 v3 v4} (hd:iY ds) (hl:ds.length≤1000*i):DI ns i (dE ns ds v2 v3 v4)
inductive DJ (ns:List Int) (k cell:Int) (n i:Nat):En→Prop
  | mk {ds v4} (hd:iY ds) (hl:ds.length=n+i):DJ ns k cell n i (dE ns ds (some (.d (.int k))) (some (.d (.int cell))) v4)
inductive DW (ns:List Int) (k:Int) (v4:Option Sv) (n:Nat):En→Prop
  | mk {cell ds} (hc:0≤cell) (hd:iY ds) (hl:ds.length≤max n 900):DW ns k v4 n (dE ns ds (some (.d (.int k))) (some (.d (.int cell))) v4)
theorem Cd(ns:List Int)(hn:ns.length≤63):∃ds,jE [.d (.list (ns.map .int))]=some (.l (ds.map .int),[.d (.list (ns.map .int))])∧iY ds:=by
  have inner:∀(cell k:Int) (ds:List Int) (v4:Option Sv),0≤k→k≤63→iY ds→ds.length≤63000→∃ds' v4',(∀W,gE W jA (am 4) gH (dE ns ds (some (.d (.int k))) (some (.d (.int cell))) v4)=some (.nx (dE ns ds' (some (.d (.int k))) (some (.d (.int cell))) v4')))∧iY ds'∧ds'.length=ds.length+12:=by
    intro cell k ds v4 k0 k1 hd hl
    obtain⟨e',h1,h2⟩:=jd (own:=[]) (g:=am 4) (f:=gH) (DJ ns k cell ds.length) (bR 0 12) 0 (dE ns ds (some (.d (.int k))) (some (.d (.int cell))) v4) (fun i x e hx hI=>by
      obtain⟨rfl,hi⟩:=iN hx
      obtain⟨hd',hl'⟩:=hI
      rename_i ds' v4'
      obtain⟨r1,c1,_,_⟩:=wB cell (3*(0+(i:Int))+1) (by lia) (by lia)
      obtain⟨r2,c2,c3,c4⟩:=wB r1 (0+(i:Int)+k+2) (by lia) (by lia)
      have a1:lK 3 (0+(i:Int))=true:=yR (by decide) (by decide)
      refine⟨_,dE ns (ds'++[r2]) (some (.d (.int k))) (some (.d (.int cell))) (some (.d (.int (0+(i:Int))))),rfl,?_,df,.mk (qO hd' c3 c4) (by simp;lia)⟩
      have hlen:ds'.length < 1000000:=by lia
      simp only [Int.zero_add] at a1 c1 c2
      simp? [dE,gH,c1,c2,nQ,a1,hlen]) (.mk hd rfl)
    obtain⟨hd',hl'⟩:=h2
    rename_i ds' v4'
    rw [kb] at hl'
    refine⟨ds',v4',fun W=>?_,hd',by lia⟩
    rw [jG (show jA _=some (bR 0 12,[],_) from dY (n:=12) rfl (by decide) (by decide))]
    exact h1
  have wh:∀(cell k:Int) (ds:List Int) (v4:Option Sv),0≤cell→iY ds→ds.length≤63100→∃cell' ds',oN (2 ^ 4200) eX jt (dE ns ds (some (.d (.int k))) (some (.d (.int cell))) v4)=some (.nx (dE ns ds' (some (.d (.int k))) (some (.d (.int cell'))) v4))∧0≤cell'∧iY ds'∧ds'.length≤max ds.length 900:=by
    intro cell k ds v4 hc hd hl
    have tst:∀(cell:Int) (ds:List Int),eX (dE ns ds (some (.d (.int k))) (some (.d (.int cell))) v4)=some (decide (1000000000000000000≤cell)&&decide ((ds.length:Int) < 900),dE ns ds (some (.d (.int k))) (some (.d (.int cell))) v4):=by
      intro cell ds
      by_cases h:(1000000000000000000:Int)≤cell
      · simp? [dE,eX,kr,kS,h]
      · simp? [dE,eX,kr,kS,h]
    obtain⟨e0,e',h1,hI,h3⟩:=pd (ft:=eX) (f:=jt) (DW ns k v4 ds.length)
      (fun e=>1000000 - CS 1 e) (fun e hI=>by
        obtain⟨hc',hd',hl'⟩:=hI
        rename_i cell' ds'
        rw [tst]
        by_cases c1:(1000000000000000000:Int)≤cell'
        · by_cases c2:(ds'.length:Int) < 900
          · refine .inr ⟨_,dE ns (ds'++[cell' % 2147483629]) (some (.d (.int k))) (some (.d (.int (cell' / 2147483629)))) v4,by rw [decide_eq_true c1,decide_eq_true c2];rfl,?_,.mk (by lia) (qO hd' (by lia) (by lia)) (by simp;lia),?_⟩
            · have hlen:ds'.length < 1000000:=by lia
              have b8:Bt 8000 2147483629:=lB (by decide) (by decide)
              simp? [dE,jt,aW,eY,b8,hlen]
            · simp [CS,dE];lia
          · exact .inl ⟨_,by rw [decide_eq_true c1,decide_eq_false c2];rfl,trivial⟩
        · exact .inl ⟨_,by rw [decide_eq_false c1];rfl,trivial⟩) (2 ^ 4200) _ (.mk hc hd (by lia)) (vN (m:=20) (QM (Nat.sub_le _ _) (by decide)) (by decide))
    obtain⟨hc',hd',hl'⟩:=hI
    rename_i cell' ds'
    rw [tst] at h3
    have h4:=(Prod.mk.inj (Og h3)).2
    subst h4
    exact⟨cell',ds',h1,hc',hd',hl'⟩
  have turn:∀(i:Nat) (ds:List Int) (v3 v4:Option Sv) (hi:i < ns.length),iY ds→ds.length≤1000*i→∃ds2 v3' v4',eV (dE ns ds (some (.d (.int (i:Int)))) v3 v4)=some (.nx (dE ns ds2 (some (.d (.int (i:Int)))) v3' v4'))∧iY ds2∧ds2.length≤1000*(i+1):=by
    intro i ds v3 v4 hi hd hl
    have hcell:atI (ns.map PyData.int) (i:Int)=some (.int ns[i]):=by
      rw [gy (by lia) (by rw [NC];lia)]
      simp [hi]
    have c0:(0:Int)≤(ns[i].natAbs:Int):=by lia
    have st:bi 3 (aB (g1 wY) (aa (ax dM (ab 0) (ab 2)) ah)) (dE ns ds (some (.d (.int (i:Int)))) v3 v4)=some (.nx (dE ns ds (some (.d (.int (i:Int)))) (some (.d (.int (ns[i].natAbs:Int)))) v4)):=by
      simp? [dE,hcell]
    generalize (ns[i].natAbs:Int)=cell at c0 st
    have mid:∃ds1 v4',iO (ay (ax CM (ab 3) (ax uB (vC (.int 10)) (vC (.int 18))))) (gE ([4]++[]) jA (am 4) gH) cG (dE ns ds (some (.d (.int (i:Int)))) (some (.d (.int cell))) v4)=some (.nx (dE ns ds1 (some (.d (.int (i:Int)))) (some (.d (.int cell))) v4'))∧iY ds1∧ds1.length≤ds.length+12:=by
      by_cases cb:cell < 1000000000000000000
      · obtain⟨ds1,v4',f1,f2,f3⟩:=inner cell (i:Int) ds v4 (by lia) (by lia) hd (by lia)
        refine⟨ds1,v4',?_,f2,by lia⟩
        rw [Hb (e1:=dE ns ds (some (.d (.int (i:Int)))) (some (.d (.int cell))) v4) (by simp? [dE,kr,kS,cb])]
        exact f1 _
      · refine⟨ds,v4,?_,hd,by lia⟩
        rw [Ha (e1:=dE ns ds (some (.d (.int (i:Int)))) (some (.d (.int cell))) v4) (by simp? [dE,kr,kS,cb])]
        rfl
    obtain⟨ds1,v4',m1,m2,m3⟩:=mid
    obtain⟨cell2,ds2,w1,w2,w3,w4⟩:=wh cell (i:Int) ds1 v4' c0 m2 (by lia)
    by_cases c2:(2147483629:Int)≤cell2
    · refine⟨ds2++[cell2 % 2147483629],some (.d (.int cell2)),v4',?_,qO w3 (by lia) (by lia),by simp;lia⟩
      have hlen:ds2.length < 1000000:=by lia
      unfold eV
      rw [jH st,jH m1,jH w1]
      simp? [dE,c2,aW,hlen]
    · refine⟨ds2,some (.d (.int cell2)),v4',?_,w3,by lia⟩
      unfold eV
      rw [jH st,jH m1,jH w1]
      simp? [dE,c2]
  obtain⟨e',h1,hI⟩:=jd (own:=[]) (g:=am 2) (f:=eV) (DI ns) (bR 0 (min (ns.length:Int) 63).toNat) 0 (dE ns [] none none none) (fun i x e hx hI=>by
    obtain⟨rfl,hi⟩:=iN hx
    obtain⟨hd,hl⟩:=hI
    rename_i ds v2 v3 v4
    rw [PK] at hl ⊢
    obtain⟨ds2,v3',v4',t1,t2,t3⟩:=turn i ds v3 v4 (by lia) hd hl
    exact⟨dE ns ds (some (.d (.int (i:Int)))) v3 v4,_,by simp [am,dE],t1,df,.mk t2 t3⟩) (.mk (fun d hd=>by cases hd) (by simp))
  obtain⟨hd,hl⟩:=hI
  rename_i ds v2 v3 v4
  refine⟨ds,?_,hd⟩
  have hf:∀W,gE W lG (am 2) eV (dE ns [] none none none)=some (.nx (dE ns ds v2 v3 v4)):=fun W=>by
    rw [jG (show lG _=some (bR 0 (min (ns.length:Int) 63).toNat,[],dE ns [] none none none) from dY (n:=min (ns.length:Int) 63) (by simp? [dE]) (by lia) (by lia))]
    exact h1
  unfold dE at hf
  simp only [Oe] at hf
  simp? [jE,vq,hf]
theorem Ht(a b:Int)(hb:Bt 4000 b):sY [.d (.int a),.d (.int b)]=some (.d (.int (Np a b)),[.d (.int a),.d (.int b)]):=by
  have tst:∀x y:Int,kn [some (.d (.int x)),some (.d (.int y))]=some (!(y==0),[some (.d (.int x)),some (.d (.int y))]):=fun x y=>by simp? [kn]
  obtain⟨e0,e',h1,⟨x,y,he,hg,hy⟩,h3⟩:=pd (ft:=kn) (f:=mP) (fun e=>∃x y,e=[some (.d (.int x)),some (.d (.int y))]∧Np x y=Np a b∧Bt 4000 y) (yS 1) (fun e ⟨x,y,he,hg,hy⟩=>by
    subst he
    rw [tst]
    by_cases c:y=0
    · subst c;exact .inl ⟨_,rfl,trivial⟩
    · refine .inr ⟨_,[some (.d (.int y)),some (.d (.int (x.fmod y)))],by rw [beq_false_of_ne c];rfl,by simp? [mP,Dz c],⟨y,x.fmod y,rfl,by rw [yw,hg],?_⟩,?_⟩
      · have:=ma x c
        exact Bt.of_le hy (by lia)
      · have:=ma x c
        simpa [yS] using this) (2 ^ 4200) _ ⟨a,b,rfl,rfl,hb⟩ (vN (m:=4000) (by simpa [yS,Bt] using hb) (by decide))
  subst he
  rw [tst] at h3
  have h4:=Prod.mk.inj (Og h3)
  have hy0:y=0:=by simpa using h4.1
  subst hy0
  have h5:=h4.2
  subst h5
  have hs:oN (2 ^ 4200) kn mP [some (.d (.int a)),some (.d (.int b))]=some (.nx [some (.d (.int x)),some (.d (.int 0))]):=h1
  have hg':(x.natAbs:Int)=(Np a b:Int):=by rw [←hg];simp
  simp only [sY,Cz,h8,jN,aL,iO,bh,cG,bi,eD,k8,pJ,rF,ay,ax,uh,ab,vC,d_,ah,aa,cu,aB,cR,lU,uf,lW,xP,js,vj,o8,wD,gp,fN,b7,bK,mK,fL,gj,gM,cZ,cq,qR,rW,cK,aS,am,cm,b_,aH,bf,rj,du,fw,c_,ip,iA,iy,iu,ir,fB,fy,fC,dU,fm,nL,gO,j2,nM,j5,iz,j3,j4,fF,fD,dX,fH,nR,jW,ff,i6,i7,ng,dS,dQ,eu,iw,Nk, -Oe, -ND, -Pb, -Pd, -Nv, -NZ, -getElem?_pos, -OC,nG,nF,nA,ny,nD,nE,nB,nH]
  simp? [hs,hg']
theorem C_(t b:Int)(hb:0 < b)(h:Bt 4000 b):p9 [.d (.int t),.d (.int b)]=some (.d (.tuple [.int (eJ t b).1,.int (eJ t b).2]),[.d (.int t),.d (.int b)]):=by
  have g0:=vJ (t:=t) (b:=b) (by lia)
  have g1:(Np t b:Int)≠0:=by lia
  have g8:Bt 8000 (Np t b:Int):=(DC (t:=t) (by lia) h).mono (by decide)
  have e:eJ t b=(t.fdiv (Np t b:Int),b.fdiv (Np t b:Int)):=by unfold eJ;rw [if_neg (by lia)]
  rw [e]
  simp? [p9,CA,Ht t b h,AW g1 g8]
theorem CC{i:Int}{n:Nat}(h1: -2147483648 < i)(h2:i < 2147483648)(hn:31≤n):Bt n i:=Bt.mono (m:=31) (by unfold Bt;lia) hn
def yd(t b:Int):Prop:=0≤t∧t≤b∧1≤b∧b≤100∧Np t b=1
theorem Ah(n k:Int)(hn:0≤n):∃t b,eA [.d (.int n),.d (.int k)]=some (.d (.tuple [.int t,.int b]),[.d (.int n),.d (.int k)])∧yd t b:=by
  have b9:Bt 8000 9:=lB (by decide) (by decide)
  have b100:Bt 8000 100:=lB (by decide) (by decide)
  have low:∀t b:Int,0 < b→0≤t→t≤b→b≤100→yd (eJ t b).1 (eJ t b).2:=fun t b hb h0 h1 h2=>by
    obtain⟨r1,r2,r3,r4⟩:=uK hb h0 h1 h2
    exact⟨r1,r2,r3,r4,yK (by lia)⟩
  by_cases c0:k=0
  · subst c0
    obtain⟨x,hx,ha⟩:=m7 (xs:=[PyData.tuple [.int 1,.int 2],.tuple [.int 1,.int 3],.tuple [.int 2,.int 3],.tuple [.int 1,.int 1],.tuple [.int 0,.int 1],.tuple [.int 3,.int 4]]) (i:=n % 6) (by lia) (by simp;lia)
    obtain⟨t,b,rfl,hc⟩:∃t b,x=.tuple [.int t,.int b]∧yd t b:=by
      simp only [Oz,Pv,or_false] at hx
      rcases hx with rfl | rfl | rfl | rfl | rfl | rfl<;>exact⟨_,_,rfl,by unfold yd;decide⟩
    exact⟨t,b,by simp? [eA,i8,aW,ha],hc⟩
  · by_cases c1:k=1
    · subst c1
      have hm:(n / 9) % (2+n % 9 - 1) < 2+n % 9 - 1:=Qe _ (by lia)
      have hm0:0≤(n / 9) % (2+n % 9 - 1):=Qd _ (by lia)
      refine⟨_,_,?_,low (1+(n / 9) % (2+n % 9 - 1)) (2+n % 9) (by lia) (by lia) (by lia) (by lia)⟩
      have hpos:∀e:En,bu e (.d (.int (n / 9))) (.d (.int (2+n % 9 - 1)))=_:=fun e=>aW (by lia)
      have hl:=C_ (1+(n / 9) % (2+n % 9 - 1)) (2+n % 9) (by lia) (CC (by lia) (by lia) (by decide))
      simp? [eA,i8,aW,eY,b9,hpos,hl]
    · by_cases c2:k=2
      · subst c2
        have hm:(n / 100) % (1+n % 100+1) < 1+n % 100+1:=Qe _ (by lia)
        have hm0:0≤(n / 100) % (1+n % 100+1):=Qd _ (by lia)
        refine⟨_,_,?_,low ((n / 100) % (1+n % 100+1)) (1+n % 100) (by lia) (by lia) (by lia) (by lia)⟩
        have hpos:∀e:En,bu e (.d (.int (n / 100))) (.d (.int (1+n % 100+1)))=_:=fun e=>aW (by lia)
        have hl:=C_ ((n / 100) % (1+n % 100+1)) (1+n % 100) (by lia) (CC (by lia) (by lia) (by decide))
        simp? [eA,i8,aW,eY,b100,hpos,hl]
      · refine⟨1,1,?_,by unfold yd;decide⟩
        simp? [eA,i8,c0,c1,c2]
theorem Ce(n k:Int):∃r,kJ [.d (.int n),.d (.int k)]=some (.d (.int r),[.d (.int n),.d (.int k)])∧0≤r∧r≤1000:=by
  obtain⟨x,hx,ha⟩:=m7 (xs:=[PyData.int (n % 7),.int (5+n % 2),.int (n % 1001),.int (1000 - n % 3)]) (i:=k % 4) (by lia) (by simp;lia)
  obtain⟨r,rfl,hr⟩:∃r,x=.int r∧0≤r∧r≤1000:=by
    simp only [Oz,Pv,or_false] at hx
    rcases hx with rfl | rfl | rfl | rfl<;>exact⟨_,rfl,by lia,by lia⟩
  exact⟨r,by simp? [kJ,vw,aW,ha],hr⟩
abbrev tE(ds:List Int)(things many shape odds ws:Int)(ts:List lw)(v7 v8 v9 v10 v11 v12:Option Sv):En:=[some (.l (ds.map .int)),some (.d (.int things)),some (.d (.int many)),some (.d (.int shape)),some (.d (.int odds)),some (.d (.int ws)),some (.l (ts.map cj)),v7,v8,v9,v10,v11,v12]
inductive TR (things many shape odds ws:Int) (ts:List lw) (k:Option Sv):En→Prop
  | mk {t ds w8 w9 w10 w11 w12} (hd:iY ds) (ht:t.Ok things):TR things many shape odds ws ts k (tE ds things many shape odds ws (ts++[t]) k w8 w9 w10 w11 w12)
inductive TI (things many a b c:Int) (i:Nat):En→Prop
  | mk {ts ds w7 w8 w9 w10 w11 w12} (hd:iY ds) (hl:ts.length=i) (ht:∀t∈ts,t.Ok things):TI things many a b c i (tE ds things many a b c ts w7 w8 w9 w10 w11 w12)
theorem Hv(ds:List Int)(things many shape odds ws:Int)(ts:List lw)(k:Int)(v8 v9 v10 v11 v12:Option Sv)(hd:iY ds)(h2:2≤things)(h12:things≤100)(s0:0≤shape)(s1:shape < 6)(k0:0≤k)(hl:ts.length≤1000):
    ∃e',gJ (tE ds things many shape odds ws ts (some (.d (.int k))) v8 v9 v10 v11 v12)=some (.nx e')∧TR things many shape odds ws ts (some (.d (.int k))) e':=by
  obtain⟨n,d1,tn, -, -,hd1⟩:=lS hd
  obtain⟨m,d2,tm,m0, -,hd2⟩:=lS hd1
  obtain⟨x,hx,ha⟩:=m7 (xs:=[PyData.int (n % things),.int 0,.int (k % things),.int (n % things),.int (n % 2),.int (n % things)]) (i:=shape) s0 (by simp;lia)
  have tp:0 < things:=QZ (by decide) h2
  have tq:0 < things - 1:=Int.sub_pos_of_lt (QZ (by decide) h2)
  have nt:0≤n % things∧n % things < things:=⟨As tp,Au tp⟩
  have kt:0≤k % things∧k % things < things:=⟨As tp,Au tp⟩
  obtain⟨one,rfl,o0,o1⟩:∃r,x=.int r∧0≤r∧r < things:=by
    simp only [Oz,Pv,or_false] at hx
    rcases hx with rfl | rfl | rfl | rfl | rfl | rfl<;>exact⟨_,rfl,by lia,by lia⟩
  have r0:0≤(n / 12) % (things - 1):=As tq
  have r1:(n / 12) % (things - 1) < things - 1:=Au tq
  have q0:0≤(one+1+(n / 12) % (things - 1)) % things:=As tp
  have q1:(one+1+(n / 12) % (things - 1)) % things < things:=Au tp
  have qn:(one+1+(n / 12) % (things - 1)) % things≠one:=fun z=>by
    by_cases c:one+1+(n / 12) % (things - 1) < things
    · rw [Int.emod_eq_of_lt (by lia) c] at z;lia
    · have e:(one+1+(n / 12) % (things - 1)) % things=(one+1+(n / 12) % (things - 1) - things) % things:=by rw [Int.sub_emod_right]
      rw [e,Int.emod_eq_of_lt (by lia) (by lia)] at z;lia
  obtain⟨t,b,c1,c2,c3,c4,c5,c6⟩:=Ah m odds m0
  obtain⟨w,w1,w2,w3⟩:=Ce (m / 10007) ws
  have b12:Bt 8000 12:=lB (by decide) (by decide)
  have b107:Bt 8000 10007:=lB (by decide) (by decide)
  have g1:∀(e:En) (i:Int),bu e (.d (.int i)) (.d (.int things))=some (.d (.int (i % things))):=fun e i=>aW tp
  have g2:∀(e:En) (i:Int),bu e (.d (.int i)) (.d (.int (things - 1)))=some (.d (.int (i % (things - 1)))):=fun e i=>aW tq
  have hlen:ts.length < 1000000:=by lia
  by_cases c:shape=4
  · subst c
    refine⟨tE d2 things many 4 odds ws (ts++[⟨0,1,t,b,w⟩]) (some (.d (.int k))) (some (.d (.int n))) (some (.d (.int 0))) (some (.d (.int 1))) (some (.d (.int m))) (some (.d (.tuple [.int 0,.int 1]))),?_,.mk hd2 ⟨by show(0:Int)≤0;decide,by show(0:Int) < 1;decide,by show(1:Int) < things;lia,c2,c3,c4,c5,w2,w3,c6⟩⟩
    simp? [tE,gJ,tn,tm,aW,g1,g2,eY,b12,b107,ha,c1,w1,lC,cj,hlen]
    decide
  · refine⟨tE d2 things many shape odds ws (ts++[⟨min one ((one+1+(n / 12) % (things - 1)) % things),max one ((one+1+(n / 12) % (things - 1)) % things),t,b,w⟩]) (some (.d (.int k))) (some (.d (.int n))) (some (.d (.int one))) (some (.d (.int ((one+1+(n / 12) % (things - 1)) % things)))) (some (.d (.int m))) (some (.d (.tuple [.int (min one ((one+1+(n / 12) % (things - 1)) % things)),.int (max one ((one+1+(n / 12) % (things - 1)) % things))]))),?_,.mk hd2 ⟨by show 0≤min _ _;lia,by show min _ _ < max _ _;lia,by show max _ _ < _;lia,c2,c3,c4,c5,w2,w3,c6⟩⟩
    simp? [tE,gJ,tn,tm,aW,g1,g2,eY,b12,b107,ha,c1,w1,lC,cj,hlen,c]
theorem Ft(ds:List Int)(things many:Int)(hd:iY ds)(h2:2≤things)(h12:things≤100)(m0:0≤many)(m1:many≤1000):∃(ts:List lw) (ds':List Int),oe [.l (ds.map .int),.d (.int things),.d (.int many)]=some (.d (.tuple (ts.map cj)),[.l (ds'.map .int),.d (.int things),.d (.int many)])∧iY ds'∧(ts.length:Int)=many∧∀t∈ts,t.Ok things:=by
  obtain⟨n0,d1,t0, -, -,hd1⟩:=lS hd
  obtain⟨n1,d2,t1, -, -,hd2⟩:=lS hd1
  obtain⟨n2,d3,t2, -, -,hd3⟩:=lS hd2
  obtain⟨e',h1,hI⟩:=jd (own:=[]) (g:=am 7) (f:=gJ) (TI things many (n0 % 6) (n1 % 4) (n2 % 4)) (bR 0 many.toNat) 0 (tE d3 things many (n0 % 6) (n1 % 4) (n2 % 4) [] none none none none none none) (fun i x e hx hI=>by
    obtain⟨rfl,hi⟩:=iN hx
    obtain⟨hd',hl,ht⟩:=hI
    rename_i ts ds' w7 w8 w9 w10 w11 w12
    obtain⟨e9,s1,⟨s2,s3⟩⟩:=Hv ds' things many (n0 % 6) (n1 % 4) (n2 % 4) ts (0+(i:Int)) w8 w9 w10 w11 w12 hd' h2 h12 (As (by decide)) (Au (by decide)) (by lia) (by lia)
    exact⟨_,_,rfl,s1,df,.mk s2 (by simp;lia) fun z hz=>by
      rcases MO hz with hz | hz
      · exact ht z hz
      · simp at hz;subst hz;exact s3⟩) (.mk hd3 rfl fun t ht=>by cases ht)
  obtain⟨hd',hl,ht⟩:=hI
  rename_i ts ds' w7 w8 w9 w10 w11 w12
  refine⟨ts,ds',?_,hd',by rw [hl,kb];lia,ht⟩
  have hf:∀W,gE W nV (am 7) gJ (tE d3 things many (n0 % 6) (n1 % 4) (n2 % 4) [] none none none none none none)=some (.nx (tE ds' things many (n0 % 6) (n1 % 4) (n2 % 4) ts w7 w8 w9 w10 w11 w12)):=fun W=>by
    rw [jG (show nV _=some (bR 0 many.toNat,[],tE d3 things many (n0 % 6) (n1 % 4) (n2 % 4) [] none none none none none none) from dY (n:=many) (by simp? [tE]) (by lia) (by lia))]
    exact h1
  unfold tE at hf
  simp only [Oe] at hf
  simp? [oe,xW,t0,t1,t2,aW,hf]
abbrev wE(ds:List Int)(most tn things many:Int)(ts:List lw)(way:Int)(ps:List Int)(v8 v9:Option Sv):En:=[some (.l (ds.map .int)),some (.d (.int most)),some (.d (.int tn)),some (.d (.int things)),some (.d (.int many)),some (.d (.tuple (ts.map cj))),some (.d (.int way)),some (.l (ps.map .int)),v8,v9]
inductive WI (most tn things many:Int) (ts:List lw) (way:Int) (i:Nat):En→Prop
  | mk {ps ds w8} (hd:iY ds) (hpl:ps.length=i) (hps:∀p∈ps,0≤p∧p≤20):WI most tn things many ts way i (wE ds most tn things many ts way ps w8 none)
theorem Hw(ds:List Int)(most tn:Int)(hd:iY ds)(m0:0≤most)(m1:most≤12)(k0:0≤tn)(k1:tn≤16):∃(W:aU) (ds':List Int),p_ [.l (ds.map .int),.d (.int most),.d (.int tn)]=some (.d (aR W),[.l (ds'.map .int),.d (.int most),.d (.int tn)])∧iY ds'∧W.Ok∧W.things≤most∧(W.ties.length:Int)≤tn:=by
  obtain⟨n0,d1,t0, -, -,hd1⟩:=lS hd
  obtain⟨n1,d2,t1, -, -,hd2⟩:=lS hd1
  have mp:0 < most+1:=Int.lt_add_one_of_le m0
  have kp:0 < tn+1:=Int.lt_add_one_of_le k0
  have g0:∀(e:En),bu e (.d (.int n0)) (.d (.int (most+1)))=some (.d (.int (n0 % (most+1)))):=fun e=>aW mp
  have g1':∀(e:En),bu e (.d (.int n1)) (.d (.int (tn+1)))=some (.d (.int (n1 % (tn+1)))):=fun e=>aW kp
  have th0:0≤n0 % (most+1):=As mp
  have th1:n0 % (most+1) < most+1:=Au mp
  have ti0:0≤n1 % (tn+1):=As kp
  have ti1:n1 % (tn+1) < tn+1:=Au kp
  clear mp kp
  generalize n0 % (most+1)=things at th0 th1 g0
  generalize n1 % (tn+1)=tm at ti0 ti1 g1'
  obtain⟨many,hmany,mm,m00,m01⟩:∃many:Int,many=tm*(if decide (1 < things)=true then 1 else 0)∧(1 < things∨many=0)∧0≤many∧many≤tn:=by
    by_cases c:1 < things
    · exact⟨tm,by simp [c],.inl c,ti0,by lia⟩
    · exact⟨0,by simp [c],.inr rfl,by lia,by lia⟩
  have gm:∀e:En,nP e (.d (.int tm)) (.d (.int (if decide (1 < things)=true then 1 else 0)))=some (.d (.int many)):=fun e=>by
    rw [nQ (ri (by split<;>decide) (by split<;>decide)),hmany]
  have gi:∀e:En,g1 pz e [.d (.bool (decide (1 < things)))]=some (.d (.int (if decide (1 < things)=true then 1 else 0))):=fun e=>rfl
  generalize (if decide (1 < things)=true then 1 else 0:Int)=one at gm gi
  obtain⟨ts,d3,t3,hd3,hlen,hts⟩:=Ft d2 (max 2 things) many hd2 (by lia) (by lia) m00 (by lia)
  obtain⟨n4,d4,t4, -, -,hd4⟩:=lS hd3
  obtain⟨e',h1,hI⟩:=jd (own:=[]) (g:=am 8) (f:=mR) (WI most tn things many ts (n4 % 3)) (bR 0 things.toNat) 0 (wE d4 most tn things many ts (n4 % 3) [] none none) (fun i x e hx hI=>by
    obtain⟨rfl,hi⟩:=iN hx
    obtain⟨hd5,hpl,hps⟩:=hI
    rename_i ps d5 w8
    obtain⟨p1,d6,t6, -, -,hd6⟩:=lS hd5
    obtain⟨p2,d7,t7, -, -,hd7⟩:=lS hd6
    obtain⟨z,hz,ha⟩:=m7 (xs:=[PyData.int 20,.int (1+p1 % 3),.int (p2 % 21)]) (i:=n4 % 3) (As (by decide)) (Au (k:=3) (by decide))
    obtain⟨p,rfl,hp⟩:∃r,z=.int r∧0≤r∧r≤20:=by
      simp only [Oz,Pv,or_false] at hz
      rcases hz with rfl | rfl | rfl<;>exact⟨_,rfl,by lia,by lia⟩
    refine⟨wE d5 most tn things many ts (n4 % 3) ps (some (.d (.int (0+(i:Int))))) none,wE d7 most tn things many ts (n4 % 3) (ps++[p]) (some (.d (.int (0+(i:Int))))) none,rfl,?_,df,.mk hd7 (by simp;lia) fun q hq=>by
      rcases MO hq with hq | hq
      · exact hps q hq
      · simp at hq;subst hq;exact hp⟩
    have hlen:ps.length < 1000000:=by lia
    simp? [wE,mR,t6,t7,aW,ha,hlen]) (.mk hd4 rfl fun p hp=>by cases hp)
  obtain⟨hd5,hpl,hps⟩:=hI
  rename_i ps d5 w8
  have hf:∀W,gE W qV (am 8) mR (wE d4 most tn things many ts (n4 % 3) [] none none)=some (.nx (wE d5 most tn things many ts (n4 % 3) ps w8 none)):=fun W=>by
    rw [jG (show qV _=some (bR 0 things.toNat,[],wE d4 most tn things many ts (n4 % 3) [] none none) from dY (n:=things) (by simp? [wE]) (by lia) (by lia))]
    exact h1
  obtain⟨p1,d6,t6, -, -,hd6⟩:=lS hd5
  obtain⟨p2,d7,t7, -, -,hd7⟩:=lS hd6
  obtain⟨p3,d8,t8, -, -,hd8⟩:=lS hd7
  have xp:0 < max 1 many:=QZ Int.zero_lt_one (Int.le_max_left _ _)
  have gx:∀(e:En),bu e (.d (.int p1)) (.d (.int (max 1 many)))=some (.d (.int (p1 % max 1 many))):=fun e=>aW xp
  have x0:0≤p1 % max 1 many:=As xp
  have x1:p1 % max 1 many < max 1 many:=Au xp
  obtain⟨z,hz,ha⟩:=m7 (xs:=[PyData.int 40,.int (1+p1 % max 1 many),.int (p2 % 41)]) (i:=p3 % 3) (As (by decide)) (Au (k:=3) (by decide))
  obtain⟨asks,rfl,hasks⟩:∃r,z=.int r∧0≤r∧r≤40:=by
    simp only [Oz,Pv,or_false] at hz
    rcases hz with rfl | rfl | rfl<;>exact⟨_,rfl,by lia,by lia⟩
  rw [kb] at hpl
  refine⟨⟨things,ts,ps,asks⟩,d8,?_,hd8,⟨th0,by show things≤12;lia,fun t ht=>?_,by show ts.length≤16;lia,by show(ps.length:Int)=things;lia,hps,hasks.1,hasks.2⟩,by show things≤most;lia,by show(ts.length:Int)≤tn;lia⟩
  · unfold wE at hf
    simp only [Oe] at hf
    simp? [p_,CB,t0,t1,g0,g1',gm,gi,t3,t4,aW,hf,t6,t7,t8,gx,ha,aR]
  · rcases mm with c | c
    · have:=hts t ht
      rw [show max 2 things=things by lia] at this
      exact this
    · have:ts=[]:=QO.mp (by lia)
      subst this;cases ht
theorem qt{W:aU}{asked:List Int}{thing:Int}(h:∀k∈asked,iT W k)(hl:asked.length≤1000):eZ [.d (aR W),.d (.tuple (asked.map .int)),.d (.int thing)]=some (.d (.int (W.many asked thing)),[.d (aR W),.d (.tuple (asked.map .int)),.d (.int thing)]):=by
  let cs:En:=[some (.d (.int thing)),some (.d (aR W))]
  have hc:∀x∈asked.map PyData.int,em (cs++[some (.d x)])=some (Az (fun k=>W.has k thing) x,cs++[some (.d x)]):=fun x hx=>by
    obtain⟨k,hk,rfl⟩:=OI.mp hx
    simp? [Az,cs,em,aR,gG (h k hk),cj,aU.has]
  have he:∀x∈asked.map PyData.int,Az (fun k=>W.has k thing) x=true→er (cs++[some (.d x)])=some (.d (id x),cs++[some (.d x)]):=fun x hx _=>by
    simp? [cs,er]
  obtain⟨t',hf⟩:=jx (cs:=cs) (ft:=em) (fe:=er) (b:=Az (fun k=>W.has k thing)) (y:=id) (asked.map PyData.int) none [] hc he (by simp;lia)
  have hv:=uc (cp:=[(2,"_law_thing"),(0,"_law_web_here")]) (nT:=1) (fi:=md) (g:=am 2) (ft:=em) (fe:=er) (e:=[some (.d (aR W)),some (.d (.tuple (asked.map PyData.int))),some (.d (.int thing))]) (cs:=cs) (t:=[none]) (t':=[t']) (nW (fa:=ab 1) rfl) rfl rfl hf
  have hlen:(([]++Pw id (List.filter (Az (fun k=>W.has k thing)) (asked.map PyData.int))).length:Int)=W.many asked thing:=by
    unfold aU.many
    simp [List.filter_map]
    rfl
  simp only [eZ,pL,h8,jN,aL,iO,bh,cG,bi,eD,k8,pJ,rF,ay,ax,uh,ab,vC,d_,ah,aa,cu,aB,cR,lU,uf,lW,xP,js,vj,o8,wD,gp,fN,b7,bK,mK,fL,gj,gM,cZ,cq,qR,rW,cK,aS,am,cm,b_,aH,bf,rj,du,fw,c_,ip,iA,iy,iu,ir,fB,fy,fC,dU,fm,nL,gO,j2,nM,j5,iz,j3,j4,fF,fD,dX,fH,nR,jW,ff,i6,i7,ng,dS,dQ,eu,iw,Nk, -Oe, -ND, -Pb, -Pd, -Nv, -NZ, -getElem?_pos, -OC,nG,nF,nA,ny,nD,nE,nB,nH]
  simp? [hv]
  simpa using hlen
theorem zb{W:aU}(ok:W.Ok){thing:Int}(h0:0≤thing)(h1:thing < W.things):atI (W.pat.map PyData.int) thing=some (.int (W.pat.getD thing.toNat 0)):=r6 h0 (by have:=ok.pl;lia)
theorem Hu{W:aU}(ok:W.Ok){asked taken:List Int}{k:Int}(h:∀k∈asked,iT W k)(hl:asked.length≤1000)(hk:iT W k):jh [.d (aR W),.d (dO asked taken),.d (.int k)]=some (.d (.bool (W.may asked taken k)),[.d (aR W),.d (dO asked taken),.d (.int k)]):=by
  have tk:=hk.ok ok
  have t0:=tk.o0
  have t1:=tk.o1
  have t2:=tk.o2
  have p1:=zb ok (thing:=(W.tie k).one) (by lia) (by lia)
  have p2:=zb ok (thing:=(W.tie k).other) (by lia) (by lia)
  have a1:=qt (W:=W) (asked:=asked) (thing:=(W.tie k).one) h hl
  have a2:=qt (W:=W) (asked:=asked) (thing:=(W.tie k).other) h hl
  rw [dw] at a1 a2 ⊢
  unfold aU.may aU.bears
  by_cases c1:asked.contains k=true
  · simp? [jh,pM,dO,c1]
    simp at c1
    simp [c1]
  · by_cases c2:W.asks≤(asked.length:Int)
    · have c1':k∉asked:=by simpa using c1
      simp? [jh,pM,dO,c1',c2]
    · have c1':k∉asked:=by simpa using c1
      have turn:∀(thing:Int) (v5:Option Sv),eZ [.d (.tuple [.int W.things,.tuple (W.ties.map cj),.tuple (W.pat.map .int),.int W.asks]),.d (.tuple (asked.map .int)),.d (.int thing)]=some (.d (.int (W.many asked thing)),[.d (.tuple [.int W.things,.tuple (W.ties.map cj),.tuple (W.pat.map .int),.int W.asks]),.d (.tuple (asked.map .int)),.d (.int thing)])→atI (W.pat.map PyData.int) thing=some (.int (W.pat.getD thing.toNat 0))→
          ig [some (.d (.tuple [.int W.things,.tuple (W.ties.map cj),.tuple (W.pat.map .int),.int W.asks])),some (.d (dO asked taken)),some (.d (.int k)),some (.d (.tuple (asked.map .int))),some (.d (.tuple (taken.map .int))),some (.d (.int thing))]=(if (!taken.contains thing&&decide (W.many asked thing < W.pat.getD thing.toNat 0))=true then some (.nx [some (.d (.tuple [.int W.things,.tuple (W.ties.map cj),.tuple (W.pat.map .int),.int W.asks])),some (.d (dO asked taken)),some (.d (.int k)),some (.d (.tuple (asked.map .int))),some (.d (.tuple (taken.map .int))),some (.d (.int thing))]) else some (.rt (.d (.bool false)) [some (.d (.tuple [.int W.things,.tuple (W.ties.map cj),.tuple (W.pat.map .int),.int W.asks])),some (.d (dO asked taken)),some (.d (.int k)),some (.d (.tuple (asked.map .int))),some (.d (.tuple (taken.map .int))),some (.d (.int thing))])):=by
        intro thing v5 ha hp
        by_cases d1:taken.contains thing=true
        · have d1':thing∈taken:=by simpa using d1
          simp? [ig,d1']
        · have d1':thing∉taken:=by simpa using d1
          by_cases d2:W.many asked thing < W.pat.getD thing.toNat 0
          · have d2':¬W.pat.getD thing.toNat 0≤W.many asked thing:=by lia
            simp only [QQ] at d2 d2' hp
            simp? [ig,d1',ha,hp,d2,d2']
          · have d2':W.pat.getD thing.toNat 0≤W.many asked thing:=by lia
            simp only [QQ] at d2 d2' hp
            simp? [ig,d1',ha,hp,d2,d2']
      have u1:=turn (W.tie k).one none a1 p1
      have u2:=turn (W.tie k).other none a2 p2
      have hf:∀Wl,gE Wl vK (am 5) ig [some (.d (.tuple [.int W.things,.tuple (W.ties.map cj),.tuple (W.pat.map .int),.int W.asks])),some (.d (dO asked taken)),some (.d (.int k)),some (.d (.tuple (asked.map .int))),some (.d (.tuple (taken.map .int))),none]=jJ [] (am 5) ig [.int (W.tie k).one,.int (W.tie k).other] [some (.d (.tuple [.int W.things,.tuple (W.ties.map cj),.tuple (W.pat.map .int),.int W.asks])),some (.d (dO asked taken)),some (.d (.int k)),some (.d (.tuple (asked.map .int))),some (.d (.tuple (taken.map .int))),none]:=fun Wl=>by
        rw [jG]
        exact nW (by simp? [gG hk,cj])
      unfold dO at u1 u2 hf ⊢
      by_cases e1:(!taken.contains (W.tie k).one&&decide (W.many asked (W.tie k).one < W.pat.getD (W.tie k).one.toNat 0))=true
      · by_cases e2:(!taken.contains (W.tie k).other&&decide (W.many asked (W.tie k).other < W.pat.getD (W.tie k).other.toNat 0))=true
        · rw [if_pos e1] at u1
          rw [if_pos e2] at u2
          rw [e1,e2]
          simp only [jh,pM,h8,jN,aL,iO,bh,cG,bi,eD,k8,pJ,rF,ay,ax,uh,ab,vC,d_,ah,aa,cu,aB,cR,lU,uf,lW,xP,js,vj,o8,wD,gp,fN,b7,bK,mK,fL,gj,gM,cZ,cq,qR,rW,cK,aS,am,cm,b_,aH,bf,rj,du,fw,c_,ip,iA,iy,iu,ir,fB,fy,fC,dU,fm,nL,gO,j2,nM,j5,iz,j3,j4,fF,fD,dX,fH,nR,jW,ff,i6,i7,ng,dS,dQ,eu,iw,Nk, -Oe, -ND, -Pb, -Pd, -Nv, -NZ, -getElem?_pos, -OC,nG,nF,nA,ny,nD,nE,nB,nH]
          simp? [c1',c2,hf,jJ,u1,u2,df]
        · rw [if_pos e1] at u1
          rw [if_neg e2] at u2
          rw [e1,Bool.not_eq_true _ |>.mp e2]
          simp only [jh,pM,h8,jN,aL,iO,bh,cG,bi,eD,k8,pJ,rF,ay,ax,uh,ab,vC,d_,ah,aa,cu,aB,cR,lU,uf,lW,xP,js,vj,o8,wD,gp,fN,b7,bK,mK,fL,gj,gM,cZ,cq,qR,rW,cK,aS,am,cm,b_,aH,bf,rj,du,fw,c_,ip,iA,iy,iu,ir,fB,fy,fC,dU,fm,nL,gO,j2,nM,j5,iz,j3,j4,fF,fD,dX,fH,nR,jW,ff,i6,i7,ng,dS,dQ,eu,iw,Nk, -Oe, -ND, -Pb, -Pd, -Nv, -NZ, -getElem?_pos, -OC,nG,nF,nA,ny,nD,nE,nB,nH]
          simp? [c1',c2,hf,jJ,u1,u2,df]
      · rw [if_neg e1] at u1
        rw [Bool.not_eq_true _ |>.mp e1]
        simp only [jh,pM,h8,jN,aL,iO,bh,cG,bi,eD,k8,pJ,rF,ay,ax,uh,ab,vC,d_,ah,aa,cu,aB,cR,lU,uf,lW,xP,js,vj,o8,wD,gp,fN,b7,bK,mK,fL,gj,gM,cZ,cq,qR,rW,cK,aS,am,cm,b_,aH,bf,rj,du,fw,c_,ip,iA,iy,iu,ir,fB,fy,fC,dU,fm,nL,gO,j2,nM,j5,iz,j3,j4,fF,fD,dX,fH,nR,jW,ff,i6,i7,ng,dS,dQ,eu,iw,Nk, -Oe, -ND, -Pb, -Pd, -Nv, -NZ, -getElem?_pos, -OC,nG,nF,nA,ny,nD,nE,nB,nH]
        simp? [c1',c2,hf,jJ,u1,df]
theorem Ag{W:aU}{asked taken:List Int}{k:Int}(truth:Bool)(hk:iT W k)(h1:asked.length < 60)(h2:taken.length < 60):fJ [.d (aR W),.d (dO asked taken),.d (.int k),.d (.bool truth)]=some (.d (dO (aU.askd asked k) (W.took taken k truth)),[.d (aR W),.d (dO asked taken),.d (.int k),.d (.bool truth)]):=by
  have s1:∀e,g1 dW e [.d (.tuple (asked.map PyData.int++[.int k]))]=some (.l ((hU (asked++[k])).map .int)):=fun e=>by
    have:=iB (e:=e) (ns:=asked++[k]) (by simp;lia)
    simpa using this
  have s2:∀e,g1 dW e [.d (.tuple (taken.map PyData.int++[.int (W.tie k).one,.int (W.tie k).other]))]=some (.l ((hU (taken++[(W.tie k).one,(W.tie k).other])).map .int)):=fun e=>by
    have:=iB (e:=e) (ns:=taken++[(W.tie k).one,(W.tie k).other]) (by simp;lia)
    simpa using this
  have g1':∀e,cx e (.d (.tuple (asked.map .int))) (.d (.tuple [.int k]))=some (.d (.tuple (asked.map .int++[.int k]))):=fun e=>lC (by simp;lia)
  have g2':∀e,cx e (.d (.tuple (taken.map .int))) (.d (.tuple [.int (W.tie k).one,.int (W.tie k).other]))=some (.d (.tuple (taken.map .int++[.int (W.tie k).one,.int (W.tie k).other]))):=fun e=>lC (by simp;lia)
  rw [dw]
  cases truth with
  | true=>simp? [fJ,m8,dO,gG hk,cj,g1',g2',s1,s2,aU.askd,aU.took]
  | false=>simp? [fJ,m8,dO,g1',s1,aU.askd,aU.took]
theorem jr{W:aU}{k:Int}(hk:iT W k):bL [.d (aR W),.d (.int k)]=some (.d (.tuple [.int (W.tie k).one,.int (W.tie k).other]),[.d (aR W),.d (.int k)]):=by
  rw [dw]
  simp? [bL,l8,gG hk,cj]
theorem t5{W:aU}{asked:List Int}{thing:Int}(h:∀k∈asked,iT W k)(hl:asked.length≤1000):eB [.d (aR W),.d (.tuple (asked.map .int)),.d (.int thing)]=some (.d (.int (W.many asked thing)),[.d (aR W),.d (.tuple (asked.map .int)),.d (.int thing)]):=by
  let cs:En:=[some (.d (.int thing)),some (.d (aR W))]
  have hc:∀x∈asked.map PyData.int,cN (cs++[some (.d x)])=some (Az (fun k=>W.has k thing) x,cs++[some (.d x)]):=fun x hx=>by
    obtain⟨k,hk,rfl⟩:=OI.mp hx
    have t:=jr (h k hk)
    simp? [Az,cs,cN,t,aU.has]
  have he:∀x∈asked.map PyData.int,Az (fun k=>W.has k thing) x=true→cO (cs++[some (.d x)])=some (.d (id x),cs++[some (.d x)]):=fun x hx _=>by
    simp? [cs,cO]
  obtain⟨t',hf⟩:=jx (cs:=cs) (ft:=cN) (fe:=cO) (b:=Az (fun k=>W.has k thing)) (y:=id) (asked.map PyData.int) none [] hc he (by simp;lia)
  have hv:=uc (cp:=[(2,"thing"),(0,"web")]) (nT:=1) (fi:=jM) (g:=am 2) (ft:=cN) (fe:=cO) (e:=[some (.d (aR W)),some (.d (.tuple (asked.map PyData.int))),some (.d (.int thing))]) (cs:=cs) (t:=[none]) (t':=[t']) (nW (fa:=ab 1) rfl) rfl rfl hf
  have hlen:(([]++Pw id (List.filter (Az (fun k=>W.has k thing)) (asked.map PyData.int))).length:Int)=W.many asked thing:=by
    unfold aU.many
    simp [List.filter_map]
    rfl
  simp only [eB,l6,h8,jN,aL,iO,bh,cG,bi,eD,k8,pJ,rF,ay,ax,uh,ab,vC,d_,ah,aa,cu,aB,cR,lU,uf,lW,xP,js,vj,o8,wD,gp,fN,b7,bK,mK,fL,gj,gM,cZ,cq,qR,rW,cK,aS,am,cm,b_,aH,bf,rj,du,fw,c_,ip,iA,iy,iu,ir,fB,fy,fC,dU,fm,nL,gO,j2,nM,j5,iz,j3,j4,fF,fD,dX,fH,nR,jW,ff,i6,i7,ng,dS,dQ,eu,iw,Nk, -Oe, -ND, -Pb, -Pd, -Nv, -NZ, -getElem?_pos, -OC,nG,nF,nA,ny,nD,nE,nB,nH]
  simp? [hv]
  simpa using hlen
theorem BH{W:aU}(ok:W.Ok){thing:Int}(h0:0≤thing)(h1:thing < W.things):atI (W.pat.map PyData.int) thing=some (.int (W.pat.getD thing.toNat 0)):=r6 h0 (by have:=ok.pl;lia)
theorem wA{W:aU}(ok:W.Ok){asked taken:List Int}{thing:Int}(h:∀k∈asked,iT W k)(hl:asked.length≤1000)(h0:0≤thing)(h1:thing < W.things):bD [.d (aR W),.d (dO asked taken),.d (.int thing)]=some (.d (.bool (W.bears asked taken thing)),[.d (aR W),.d (dO asked taken),.d (.int thing)]):=by
  have a:=t5 (thing:=thing) h hl
  have p:=BH ok h0 h1
  have g2:∀e,dM e (.d (aR W)) (.d (.int 2))=some (.d (.tuple (W.pat.map .int))):=fun e=>by rw [dw,gO,i6];rfl
  unfold aU.bears
  generalize W.pat.getD thing.toNat 0=q at p ⊢
  by_cases c:taken.contains thing=true
  · simp only [c]
    simp at c
    simp? [bD,dP,dO,c]
  · have c':taken.contains thing=false:=by simpa using c
    simp only [c']
    simp at c
    unfold dO at a ⊢
    simp? [bD,dP,c,a,g2,p]
theorem xK{W:aU}(ok:W.Ok){asked taken:List Int}{k:Int}(h:∀k∈asked,iT W k)(hl:asked.length≤1000)(hk:iT W k):cD [.d (aR W),.d (dO asked taken),.d (.int k)]=some (.d (.bool (W.may asked taken k)),[.d (aR W),.d (dO asked taken),.d (.int k)]):=by
  have o:=hk.ok ok
  have o0:=o.o0;have o1:=o.o1;have o2:=o.o2
  have b1:=wA ok (taken:=taken) (thing:=(W.tie k).one) h hl (by lia) (by lia)
  have b2:=wA ok (taken:=taken) (thing:=(W.tie k).other) h hl (by lia) (by lia)
  have th:=jr hk
  have g3:∀e,dM e (.d (aR W)) (.d (.int 3))=some (.d (.int W.asks)):=fun e=>by rw [dw,gO,i7];rfl
  unfold aU.may
  by_cases c1:asked.contains k=true
  · simp only [c1]
    simp at c1
    simp? [cD,jv,dO,c1]
  · have c1':asked.contains k=false:=by simpa using c1
    simp at c1
    by_cases c2:W.asks≤(asked.length:Int)
    · simp only [c1',c2]
      simp? [cD,jv,dO,c1,c2,g3]
    · simp only [c1',c2]
      have hc:dI [(0,"web"),(1,"stand")] 1 me (am 2) oW jc [some (.d (aR W)),some (.d (dO asked taken)),some (.d (.int k)),some (.d (.tuple (asked.map .int)))]=some (.l [.bool (W.bears asked taken (W.tie k).one),.bool (W.bears asked taken (W.tie k).other)],[some (.d (aR W)),some (.d (dO asked taken)),some (.d (.int k)),some (.d (.tuple (asked.map .int)))]):=by
        refine vg (items:=[.int (W.tie k).one,.int (W.tie k).other]) (eo:=[some (.d (aR W)),some (.d (dO asked taken)),some (.d (.int (W.tie k).other))]) (nW (by simp? [th])) ?_ rfl
        have hi:sR [(0,"web"),(1,"stand")] 1 [some (.d (aR W)),some (.d (dO asked taken)),some (.d (.int k)),some (.d (.tuple (asked.map .int)))]=[some (.d (aR W)),some (.d (dO asked taken)),none]:=rfl
        rw [hi]
        simp? [ja,oW,jc,b1,b2]
      have ga:∀e,g1 (jf sJ) e [.l [.bool (W.bears asked taken (W.tie k).one),.bool (W.bears asked taken (W.tie k).other)]]=some (.d (.bool (W.bears asked taken (W.tie k).one&&W.bears asked taken (W.tie k).other))):=fun e=>by
        simp [g1,jf,eH,sJ,qG]
      unfold dO at hc ⊢
      simp? [cD,jv,c1,c2,g3,hc,ga]
theorem oY{W:aU}{asked taken:List Int}{k:Int}(truth:Bool)(hk:iT W k)(h1:asked.length < 60)(h2:taken.length < 60):bG [.d (aR W),.d (dO asked taken),.d (.int k),.d (.bool truth)]=some (.d (dO (aU.askd asked k) (W.took taken k truth)),[.d (aR W),.d (dO asked taken),.d (.int k),.d (.bool truth)]):=by
  have s1:∀e,g1 dW e [.d (.tuple (asked.map PyData.int++[.int k]))]=some (.l ((hU (asked++[k])).map .int)):=fun e=>by
    have:=iB (e:=e) (ns:=asked++[k]) (by simp;lia)
    simpa using this
  have s2:∀e,g1 dW e [.d (.tuple (taken.map PyData.int++[.int (W.tie k).one,.int (W.tie k).other]))]=some (.l ((hU (taken++[(W.tie k).one,(W.tie k).other])).map .int)):=fun e=>by
    have:=iB (e:=e) (ns:=taken++[(W.tie k).one,(W.tie k).other]) (by simp;lia)
    simpa using this
  have g1':∀e,cx e (.d (.tuple (asked.map .int))) (.d (.tuple [.int k]))=some (.d (.tuple (asked.map .int++[.int k]))):=fun e=>lC (by simp;lia)
  have g2':∀e,cx e (.d (.tuple (taken.map .int))) (.d (.tuple [.int (W.tie k).one,.int (W.tie k).other]))=some (.d (.tuple (taken.map .int++[.int (W.tie k).one,.int (W.tie k).other]))):=fun e=>lC (by simp;lia)
  have th:=jr hk
  cases truth with
  | true=>simp? [bG,fg,dO,th,g1',g2',s1,s2,aU.askd,aU.took]
  | false=>simp? [bG,fg,dO,g1',s1,aU.askd,aU.took]
structure Jm (W:aU) (asked taken:List Int):Prop where
  inw:∀k∈asked,iT W k
  sa:asked.Pairwise (· ≤·)
  na:asked.Nodup
  ak:(asked.length:Int)≤W.asks
  bd:∀t:Int,0≤t→t < W.things→W.many asked t≤W.pat.getD t.toNat 0
  st:taken.Pairwise (· ≤·)
  nt:taken.Nodup
  th:∀t∈taken,0≤t∧t < W.things
  ev:(taken.length:Int) % 2=0
  tt:∀t∈taken,0 < W.many asked t
noncomputable def l0(th ak:Int):Str:=MW "things"++MW " "++(nS th++MW " "++(MW "asks"++MW " "++nS ak))++MW "\n"
noncomputable def lP(p:Int):Str:=MW "thing"++MW " "++nS p++MW "\n"
noncomputable def fW(t:lw):Str:=Pm++nS t.top++MW "/"++nS t.bot
noncomputable def lT(t:lw):Str:=MW "tie"++MW " "++(nS t.one++MW " "++(nS t.other++MW " "++(fW t++MW " "++nS t.worth)))++MW "\n"
noncomputable def Jv(W:aU):List Str:=[l0 W.things W.asks]++W.pat.map lP++W.ties.map lT
structure JT (t:lw):Prop where
  a:0≤t.one∧t.one≤1000
  b:0≤t.other∧t.other≤1000
  c:0≤t.top∧t.top≤1000
  d:0≤t.bot∧t.bot≤1000
  e:0≤t.worth∧t.worth≤1000
noncomputable def wd:MT→Str
  | .int i=>nS i
  | .str x=>x
  | _=>Pm
structure Wd (d:MT):Prop where
  go:∀e:En,g1 iC e [.d d]=some (.d (.str (wd d)))
  ln:(wd d).length≤20
theorem Wd.int{i:Int}(h0:0≤i)(h1:i≤1000):Wd (.int i):=⟨fun e=>yt h0 h1,by have:=Eg h0 h1;show(nS i).length≤20;lia⟩
theorem Wd.str{x:Str}(h:x.length≤20):Wd (.str x):=⟨fun e=>yu,h⟩
def JZ(r:List (Int × Bool)):List Int:=(r.filter (·.2)).map (·.1)
def kw(W:aU)(r:List (Int × Bool)):Int:=((JZ r).map fun k=>(W.tie k).worth).sum
def boolD:MT→Bool
  | .bool b=>b
  | _=>false
noncomputable def Lk(k:Int):Str:=MW "ask "++nS k
theorem GA:∀k:Fin 16,OE (Lk (k.val:Int)) none (some 4)=MW "ask ":=by decide+kernel
theorem GB:∀k:Fin 16,OE (Lk (k.val:Int)) (some 4) none=nS (k.val:Int):=by decide+kernel
theorem GC:∀k:Fin 16,OJ (Lk (k.val:Int)) (MW " ")=[MW "ask",nS (k.val:Int)]:=by decide+kernel
theorem GD:∀k:Fin 16,Qc (nS (k.val:Int))=true∧(nS (k.val:Int)).length≤4∧Qb (nS (k.val:Int))=some (k.val:Int):=by decide+kernel
theorem GE:∀k:Fin 16,∀x∈["yes","no","may","kept","back","best","bound"],Lk (k.val:Int)≠MW x:=by decide+kernel
theorem n_{P:Int→Prop}(h:∀k:Fin 16,P (k.val:Int)){k:Int}(h0:0≤k)(h1:k < 16):P k:=by
  have:=h ⟨k.toNat,by lia⟩
  rw [show(((⟨k.toNat,by lia⟩:Fin 16).val:Nat):Int)=k by simp;lia] at this
  exact this
def h9(W:aU):Std→List (Int × Bool)→Std
  | s,[]=>s
  | s,p::r=>h9 W (nxt W s p.1 p.2) r
def lz(W:aU):Std→List (Int × Bool)→Prop
  | _,[]=>True
  | s,p::r=>iT W p.1∧p.1∉s.1∧lz W (nxt W s p.1 p.2) r
theorem lz.snoc{W:aU}{k:Int}{b:Bool}(hk:iT W k):∀{r:List (Int × Bool)} {s:Std},lz W s r→k∉(h9 W s r).1→lz W s (r++[(k,b)])
  | [],s,_,h=>⟨hk,h,trivial⟩
  | p::r,s,h,n=>⟨h.1,h.2.1,lz.snoc hk h.2.2 n⟩
theorem lz.take{W:aU}:∀{r:List (Int × Bool)} {s:Std} (n:Nat),lz W s r→lz W s (r.take n)
  | _,_,0,_=>by rw [List.take_zero];trivial
  | [],_,n+1,h=>by rw [List.take_nil];exact h
  | p::r,_,n+1,h=>⟨h.1,h.2.1,lz.take n h.2.2⟩
theorem lz.st{W:aU}(ok:W.Ok):∀{r:List (Int × Bool)} {s:Std},ic W s→lz W s r→ic W (h9 W s r)
  | [],_,h,_=>h
  | p::r,s,h,q=>lz.st (r:=r) (s:=nxt W s p.1 p.2) ok (h.nxt p.2 ok q.1 q.2.1) q.2.2
theorem wy{W:aU}:∀(r:List (Int × Bool)) (s:Std),(h9 W s r).1.length=s.1.length+r.length
  | [],_=>rfl
  | p::r,s=>by
    show(h9 W (nxt W s p.1 p.2) r).1.length=_
    rw [wy r]
    show(aU.askd s.1 p.1).length+r.length=_
    rw [m6,OU];lia
theorem lz.inw{W:aU}:∀{r:List (Int × Bool)} {s:Std},lz W s r→∀p∈r,iT W p.1
  | [],_,_,p,hp=>by cases hp
  | q::r,_,h,p,hp=>by
    rcases MQ hp with rfl | hp
    · exact h.1
    · exact lz.inw h.2.2 p hp
theorem lz.len{W:aU}(ok:W.Ok){r:List (Int × Bool)}(h:lz W ([],[]) r):r.length≤16:=by
  have h1:=(h.st ok (ic.first W)).len
  rw [wy] at h1
  have:=ok.len
  simp at h1
  lia
theorem xF{W:aU}(ok:W.Ok){s:Std}(h:ic W s):s.1.length < 60∧s.2.length < 60:=by
  have:=h.len;have:=h.tk;have:=ok.len
  lia
theorem oG{W:aU}(ok:W.Ok){m:FM}(hm:∀(s:Std) (k:Int) (b:Bool),ic W s→iT W k→m [.d (aR W),.d (dO s.1 s.2),.d (.int k),.d (.bool b)]=some (.d (dO (nxt W s k b).1 (nxt W s k b).2),[.d (aR W),.d (dO s.1 s.2),.d (.int k),.d (.bool b)])){own:i5}{x1:Option Sv}
    (kp:∀a c d,keeps own [some (.d (aR W)),x1,a,c,d]):∀(r:List (Int × Bool)) (s:Std) (a b:Option Sv),ic W s→lz W s r→
    ∃a' b',jJ own (cK (aS (am 3) (aS (am 4) cm))) (bi 2 (cR 4 m (aa (ab 0) (aa (ab 2) (aa (ab 3) (aa (ab 4) ah)))))) (r.map dR) [some (.d (aR W)),x1,some (.d (dO s.1 s.2)),a,b]=some (.nx [some (.d (aR W)),x1,some (.d (dO (h9 W s r).1 (h9 W s r).2)),a',b'])
  | [],s,a,b,_,_=>⟨a,b,rfl⟩
  | p::r,s,a,b,hs,hr=>by
    have h1:=hm s p.1 p.2 hs hr.1
    obtain⟨a',b',ih⟩:=oG ok hm kp r (nxt W s p.1 p.2) (some (.d (.int p.1))) (some (.d (.bool p.2))) (hs.nxt p.2 ok hr.1 hr.2.1) hr.2.2
    refine⟨a',b',?_⟩
    have k1:=kp (some (.d (dO (nxt W s p.1 p.2).1 (nxt W s p.1 p.2).2))) (some (.d (.int p.1))) (some (.d (.bool p.2)))
    simp only [ND,jJ]
    generalize aR W=w at*
    generalize dO s.1 s.2=d at*
    generalize dO (nxt W s p.1 p.2).1 (nxt W s p.1 p.2).2=d2 at*
    simp? [dR,h1,k1]
    exact ih
theorem oZ{W:aU}(ok:W.Ok){r:List (Int × Bool)}(hr:lz W ([],[]) r):bH [.d (aR W),.d (.tuple (r.map dR))]=some (.d (dO (h9 W ([],[]) r).1 (h9 W ([],[]) r).2),[.d (aR W),.d (.tuple (r.map dR))]):=by
  obtain⟨a,b,h⟩:=oG ok (m:=bG) (own:=[]) (x1:=some (.d (.tuple (r.map dR)))) (fun s k b hs hk=>oY b hk (xF ok hs).1 (xF ok hs).2) (fun _ _ _=>df) r ([],[]) none none (ic.first W) hr
  have hf:∀Wl,gE Wl gP (cK (aS (am 3) (aS (am 4) cm))) gK [some (.d (aR W)),some (.d (.tuple (r.map dR))),some (.d (dO [] [])),none,none]=some (.nx [some (.d (aR W)),some (.d (.tuple (r.map dR))),some (.d (dO (h9 W ([],[]) r).1 (h9 W ([],[]) r).2)),a,b]):=fun Wl=>by
    exact(jG (nW rfl)).trans h
  generalize dO (h9 W ([],[]) r).1 (h9 W ([],[]) r).2=D at*
  generalize aR W=w at*
  generalize r.map dR=rs at*
  unfold dO at hf
  simp only [Oe] at hf
  simp? [bH,i9,hf]
theorem kf{W:aU}(ok:W.Ok){r:List (Int × Bool)}(hr:lz W ([],[]) r):fK [.d (aR W),.l (r.map dR)]=some (.d (dO (h9 W ([],[]) r).1 (h9 W ([],[]) r).2),[.d (aR W),.l (r.map dR)]):=by
  obtain⟨a,b,h⟩:=oG ok (m:=fJ) (own:=[(1,r.map dR)]) (x1:=some (.l (r.map dR))) (fun s k b hs hk=>Ag b hk (xF ok hs).1 (xF ok hs).2) (fun _ _ _ p hp=>by rw [NN] at hp;subst hp;rfl) r ([],[]) none none (ic.first W) hr
  have hf:gE [3,4,2] ky (cK (aS (am 3) (aS (am 4) cm))) ki [some (.d (aR W)),some (.l (r.map dR)),some (.d (dO [] [])),none,none]=some (.nx [some (.d (aR W)),some (.l (r.map dR)),some (.d (dO (h9 W ([],[]) r).1 (h9 W ([],[]) r).2)),a,b]):=by
    exact(zY (own:=[(1,r.map dR)]) rfl rfl).trans h
  generalize dO (h9 W ([],[]) r).1 (h9 W ([],[]) r).2=D at*
  generalize aR W=w at*
  generalize r.map dR=rs at*
  unfold dO at hf
  simp only [Oe] at hf
  simp? [fK,m9,hf]
theorem mT{n:Int}(h0:0≤n)(h1:n < 1000000):(nS n).length≤6:=by
  obtain⟨m,rfl⟩:=Int.eq_ofNat_of_zero_le h0
  have h2:m < 10 ^ 6:=by lia
  have:=(Nat.length_toDigits_le_iff (b:=10) (n:=m) (k:=6) (by decide) (by decide)).mpr h2
  have e:nS (m:Int)=MW (String.ofList (Nat.toDigits 10 m)):=rfl
  have e2:(MW (String.ofList (Nat.toDigits 10 m))).length=(Nat.toDigits 10 m).length:=by
    rw [Str.ofString_eq_toList]
    simp [Str.length]
  rw [e,e2];exact this
theorem jz{e:En}{i:Int}(h0:0≤i)(h1:i < 1000000):g1 iC e [.d (.int i)]=some (.d (.str (nS i))):=by
  simp only [g1,iC]
  have h2:i.natAbs.log2 < 1900:=by
    by_cases z:i.natAbs=0
    · rw [z];decide
    · exact(Nat.log2_lt z).mpr (NS (show i.natAbs < 2 ^ 20 by lia) (Qp (by decide) (by decide)))
  rw [if_pos h2];rfl
theorem Wd.intB{i:Int}(h0:0≤i)(h1:i < 1000000):Wd (.int i):=⟨fun e=>jz h0 h1,by have:=mT h0 h1;show(nS i).length≤20;lia⟩
theorem Wd.ints{ks:List Int}(h:∀k∈ks,0≤k∧k < 1000000):∀d∈ks.map PyData.int,Wd d:=fun d hd=>by
  obtain⟨k,hk,rfl⟩:=OI.mp hd
  exact Wd.intB (h k hk).1 (h k hk).2
theorem II{k:Int}(h0:0≤k)(h1:k < 16):OE (Lk k) none (some 4)=MW "ask ":=n_ (P:=fun k=>OE (Lk k) none (some 4)=MW "ask ") GA h0 h1
theorem IJ{k:Int}(h0:0≤k)(h1:k < 16):OE (Lk k) (some 4) none=nS k:=n_ (P:=fun k=>OE (Lk k) (some 4) none=nS k) GB h0 h1
theorem IK{k:Int}(h0:0≤k)(h1:k < 16):OJ (Lk k) (MW " ")=[MW "ask",nS k]:=n_ (P:=fun k=>OJ (Lk k) (MW " ")=[MW "ask",nS k]) GC h0 h1
theorem D'{k:Int}(h0:0≤k)(h1:k < 16):Qc (nS k)=true∧(nS k).length≤4∧Qb (nS k)=some k:=n_ (P:=fun k=>Qc (nS k)=true∧(nS k).length≤4∧Qb (nS k)=some k) GD h0 h1
theorem IL{k:Int}(h0:0≤k)(h1:k < 16):∀x∈["yes","no","may","kept","back","best","bound"],Lk k≠MW x:=n_ (P:=fun k=>∀x∈["yes","no","may","kept","back","best","bound"],Lk k≠MW x) GE h0 h1
theorem yI{k:Int}(h0:0≤k)(h1:k < 16):(Lk k).length≤10:=by
  have:=(D' h0 h1).2.1
  unfold Lk
  rw [IS]
  have:(MW "ask ").length=4:=by decide
  lia
theorem yJ(k:Int):NK (Lk k)=true:=by
  unfold Lk
  exact qq (aO _) (vO k)
theorem eR{e:En}{neg:Bool}{a b:Str}(ha:NK a=true)(hb:NK b=true):bj neg e (.d (.str a)) (.d (.str b))=some (.d (.bool (if neg then !decide (a=b) else decide (a=b)))):=by
  have e1:(a==b)=decide (a=b):=by by_cases c:a=b<;>simp [c]
  unfold bj
  simp [gN,NI,NR,Oj,Oy,ha,hb,e1]
theorem z_{W:aU}:NI (.tuple (W.ties.map cj))=true:=(Sh.tup (n:=6) fun d hd=>by
  obtain⟨t,_,rfl⟩:=OI.mp hd
  exact Sh.tie).ok (by decide)
theorem t9{k:Int}(h0:0≤k)(h1:k < 16):eC [.d (.str (nS k))]=some (.d (.int k),[.d (.str (nS k))]):=by
  obtain⟨a1,a2,a3⟩:=D' h0 h1
  have s1:∀e:En,g1 lE e [.d (.str (nS k))]=some (.d (.int (nS k).length)):=fun e=>by
    simp only [g1,lE,b6,Nv];rw [if_pos (by lia)]
  have s2:∀e:En,g1 ix e [.d (.str (nS k))]=some (.d (.int k)):=fun e=>by
    simp only [g1,ix,b6,Nv];rw [if_pos (by lia),a3];rfl
  have s3:∀e:En,rh e (.d (.str (nS k)))=some (.d (.bool true)):=fun e=>by
    simp only [rh,b6,NZ,a1]
  have s4:∀e:En,g1 iC e [.d (.int k)]=some (.d (.str (nS k))):=fun e=>jz h0 (by lia)
  have s5:∀e:En,bj false e (.d (.str (nS k))) (.d (.str (nS k)))=some (.d (.bool true)):=fun e=>by
    rw [eR (vO k) (vO k)];simp
  have hl:¬(4:Int) < ((nS k).length:Int):=by lia
  generalize (nS k).length=L at*
  generalize nS k=x at*
  simp? [eC,l7,s1,s2,s3,s4,s5,hl]
theorem sM{e:En}{k:Int}:j1 e (.d (.int k)) (.d .none)=some (.d (.bool true)):=rfl
theorem pZ{e:En}:j1 e (.d .none) (.d .none)=some (.d (.bool false)):=rfl
theorem ym{e:En}{k:Int}:FK e (.d (.int k)) (.d .none)=some (.d (.bool false)):=rfl
theorem Dy{e:En}:FK e (.d .none) (.d .none)=some (.d (.bool true)):=rfl
theorem rO{W:aU}(ok:W.Ok){k:Int}(hk:iT W k):dB [.d (aR W),.d (.str (Lk k))]=some (.d (.int k),[.d (aR W),.d (.str (Lk k))]):=by
  obtain⟨h0,h1⟩:=id hk
  have wl:=ok.len
  have h1':k < 16:=by lia
  have a:=yI h0 h1'
  have s0:∀e:En,ji e (.d (.str (Lk k))) (.d (.str (MW " ")))=some (.l [.str (MW "ask"),.str (nS k)]):=fun e=>by
    simp only [ji,b6,Nv]
    rw [if_pos ⟨by decide,by lia⟩,IK h0 h1'];rfl
  have n1:=t9 h0 h1'
  have s5:∀e:En,bj true e (.d (.str (MW "ask"))) (.d (.str (MW "ask")))=some (.d (.bool false)):=fun e=>by
    rw [eR (aO _) (aO _)];simp
  have g1':∀e:En,dM e (.d (aR W)) (.d (.int 1))=some (.d (.tuple (W.ties.map cj))):=fun e=>by rw [dw,gO,ff];rfl
  have hlt:k < ((W.ties.map cj).length:Int):=by simpa using h1
  generalize W.ties.map cj=TT at*
  generalize aR W=w at*
  generalize Lk k=x at*
  generalize nS k=y at*
  simp? [dB,kj,s0,s5,n1,g1',sM,hlt]
inductive Ln (W:aU) (B:Prop):Str→Prop
  | ask {k:Int} (h:iT W k):Ln W B (Lk k)
  | yes:Ln W B (MW "yes")
  | no:Ln W B (MW "no")
  | back (h:B):Ln W B (MW "back")
theorem Fq{W:aU}(ok:W.Ok){ds:List Int}(hd:iY ds){menu:List Str}(hm:∀x∈menu,x=MW "ask"∨x=MW "yes"∨x=MW "no"∨x=MW "back")(h0:0 < menu.length):∃x,Ln W (MW "back"∈menu) x∧jg [.l (ds.map .int),.d (aR W),.d (.list (menu.map .str))]=some (.d (.str x),[.l (ds.tail.map .int),.d (aR W),.d (.list (menu.map .str))]):=by
  have n1:=vc ds
  obtain⟨a0,a1⟩:=yZ hd
  have g1':∀e:En,dM e (.d (aR W)) (.d (.int 1))=some (.d (.tuple (W.ties.map cj))):=fun e=>by rw [dw,gO,ff];rfl
  have pm:(0:Int) < (menu.length:Int):=by lia
  have m0:0≤nx ds % (menu.length:Int):=Qd _ (by lia)
  have m1:nx ds % (menu.length:Int) < (menu.length:Int):=Qe _ pm
  obtain⟨x,hx⟩:∃x,menu[(nx ds % (menu.length:Int)).toNat]?=some x:=⟨_,Ot (by lia)⟩
  have hmx:=hm x (MR hx)
  have gx:atI (menu.map PyData.str) (nx ds % (menu.length:Int))=some (.str x):=by
    rw [gy m0 (by simpa using m1),NF,hx];rfl
  have gm:∀e:En,bu e (.d (.int (nx ds))) (.d (.int (((menu.map PyData.str).length:Nat):Int)))=some (.d (.int (nx ds % (menu.length:Int)))):=fun e=>by
    rw [NC];exact aW pm
  have tk:=ok.len
  have key:∀y:Str,y≠MW "ask"→NK y=true→∀e:En,bj true e (.d (.str y)) (.d (.str (MW "ask")))=some (.d (.bool true)):=fun y hy ho e=>by
    rw [eR ho (aO _)];simp [hy]
  by_cases hask:x=MW "ask"
  · subst hask
    have s5:∀e:En,bj true e (.d (.str (MW "ask"))) (.d (.str (MW "ask")))=some (.d (.bool false)):=fun e=>by
      rw [eR (aO _) (aO _)];simp
    have hsh:NI (.tuple (W.ties.map cj))=true:=z_
    have g2:∀e:En,bj false e (.d (.tuple (W.ties.map cj))) (.d (.tuple []))=some (.d (.bool (W.ties.map cj).isEmpty)):=fun e=>by
      have:=yl (e:=e) (neg:=false) hsh
      simpa using this
    by_cases hn:W.ties.length=0
    · refine⟨_,.yes,?_⟩
      have he:(W.ties.map cj).isEmpty=true:=by simpa using QO.mp hn
      rw [he] at g2
      generalize W.ties.map cj=TT at*
      generalize aR W=w at*
      generalize menu.map PyData.str=MM at*
      generalize nx ds % (menu.length:Int)=q at*
      simp? [jg,qE,n1,g1',gm,gx,s5,g2]
    · have he:(W.ties.map cj).isEmpty=false:=by
        cases h:W.ties with
        | nil=>exact absurd (by rw [h];rfl) hn
        | cons a r=>rfl
      rw [he] at g2
      have pt:(0:Int) < (W.ties.length:Int):=by lia
      have q0:0≤nx ds / 64 % (W.ties.length:Int):=Qd _ (by lia)
      have q1:nx ds / 64 % (W.ties.length:Int) < (W.ties.length:Int):=Qe _ pt
      refine⟨_,.ask (k:=nx ds / 64 % (W.ties.length:Int)) ⟨q0,by lia⟩,?_⟩
      have gd:∀e:En,fx e (.d (.int (nx ds))) (.d (.int 64))=some (.d (.int (nx ds / 64))):=fun e=>eY (by decide) (lB (by decide) (by decide))
      have gm2:∀e:En,bu e (.d (.int (nx ds / 64))) (.d (.int (((W.ties.map cj).length:Nat):Int)))=some (.d (.int (nx ds / 64 % (W.ties.length:Int)))):=fun e=>by
        rw [NC];exact aW pt
      generalize nx ds / 64 % (W.ties.length:Int)=k at*
      have s4:∀e:En,g1 iC e [.d (.int k)]=some (.d (.str (nS k))):=fun e=>jz q0 (by lia)
      have s6:∀e:En,je e (.d (.str (MW "ask "))) (.d (.str (nS k)))=some (.d (.str (Lk k))):=fun e=>vH (by
        have:=mT q0 (by lia)
        have:(MW "ask ").length=4:=by decide
        lia)
      generalize Lk k=lk at*
      generalize nS k=y at*
      generalize W.ties.map cj=TT at*
      generalize aR W=w at*
      generalize menu.map PyData.str=MM at*
      generalize nx ds % (menu.length:Int)=q at*
      simp? [jg,qE,n1,g1',gm,gx,s5,g2,gd,gm2,s4,s6]
  · have hx':Ln W (MW "back"∈menu) x∧NK x=true:=by
      rcases hmx with rfl | rfl | rfl | rfl
      · exact absurd rfl hask
      · exact⟨.yes,aO _⟩
      · exact⟨.no,aO _⟩
      · exact⟨.back (MR hx),aO _⟩
    refine⟨x,hx'.1,?_⟩
    have s5:=key x hask hx'.2
    generalize aR W=w at*
    generalize menu.map PyData.str=MM at*
    generalize nx ds % (menu.length:Int)=q at*
    simp? [jg,qE,n1,gm,gx,s5]
def oL(o:Option Int):List MT:=o.toList.map .int
theorem Fj:∀{a b:String},MW a≠MW b→∀(e:En) (neg:Bool),bj neg e (.d (.str (MW a))) (.d (.str (MW b)))=some (.d (.bool neg)):=fun{a b} h e neg=>by
  rw [eR (aO _) (aO _)]
  simp [h]
theorem FP(a:String)(e:En)(neg:Bool):bj neg e (.d (.str (MW a))) (.d (.str (MW a)))=some (.d (.bool !neg)):=by
  rw [eR (aO _) (aO _)]
  simp
theorem yV{x0 x1 x2 x3 a b:Option Sv}{ws:List MT}(hs:NI (.list ws)=true)(neg:Bool):bj neg [x0,x1,x2,x3,some (.l ws),a,b] (.s 4) (.l [])=some (.d (.bool (if neg then !ws.isEmpty else ws.isEmpty))):=sL rfl hs
theorem lM(o:Option Int):NI (.list (oL o))=true:=(mw o.toList).1
theorem xJ{W:aU}(ok:W.Ok){r:List (Int × Bool)}{o:Option Int}{k:Int}(hr:lz W ([],[]) r)(hk:iT W k)(g:Bool)(hg:g=(o.isNone&&W.may (h9 W ([],[]) r).1 (h9 W ([],[]) r).2 k)):dc ([some (.d (aR W)),none,some (.d (.str (Lk k)))],[(.s 1,.st (r.map dR) (oL o))])=some (.str (if g=true then MW "asked" else MW "NoAsk"),[(.s 1,.st (r.map dR) (oL (if g=true then some k else o)))]):=by
  obtain⟨k0,k1⟩:=id hk
  have wl:=ok.len
  have k1':k < 16:=by lia
  have st:=hr.st ok (ic.first W)
  have h1:=kf ok hr
  have h2:=Hu ok (taken:=(h9 W ([],[]) r).2) st.inw (by have:=(xF ok st).1;lia) hk
  have s1:=II k0 k1'
  have s2:=IJ k0 k1'
  have sl:(Lk k).length≤1000000:=by have:=yI k0 k1';lia
  obtain⟨a1,a2,a3⟩:=D' k0 k1'
  have i1:∀e:En,g1 ix e [.d (.str (nS k))]=some (.d (.int k)):=fun e=>by
    simp only [g1,ix,b6,Nv];rw [if_pos (by lia),a3];rfl
  have q1:=FP "ask "
  have n1:=fun x0 x1 x2 x3 a b neg=>yV (x0:=x0) (x1:=x1) (x2:=x2) (x3:=x3) (a:=a) (b:=b) (lM o) neg
  generalize W.may (h9 W ([],[]) r).1 (h9 W ([],[]) r).2 k=mb at*
  generalize dO (h9 W ([],[]) r).1 (h9 W ([],[]) r).2=D at*
  generalize r.map dR=rs at*
  generalize aR W=w at*
  generalize Lk k=x at*
  generalize nS k=y at*
  cases o with
  | some j=>
    subst hg
    have n2:∀x0 x1 x2 x3 a b,bj true [x0,x1,x2,x3,some (.l (oL (some j))),a,b] (.s 4) (.l [])=some (.d (.bool true)):=fun x0 x1 x2 x3 a b=>by
      rw [n1];rfl
    generalize he:oL (some j)=ws at*
    simp? [dc,dA,i_,pI,jO,okO,Lc.slot,pb,b6,s1,s2,sl,q1,h1,i1,n2]
    exact he.symm
  | none=>
    have n2:∀x0 x1 x2 x3 a b,bj true [x0,x1,x2,x3,some (.l []),a,b] (.s 4) (.l [])=some (.d (.bool false)):=fun x0 x1 x2 x3 a b=>by
      have:=n1 x0 x1 x2 x3 a b true
      exact this
    have e0:oL none=[]:=rfl
    have e1:oL (some k)=[.int k]:=rfl
    cases mb with
    | true=>
      subst hg
      simp? [dc,dA,i_,pI,jO,okO,Lc.slot,pb,b6,e0,e1,s1,s2,sl,q1,h1,h2,i1,n2]
    | false=>
      subst hg
      simp? [dc,dA,i_,pI,jO,okO,Lc.slot,pb,b6,e0,s1,s2,sl,q1,h1,h2,i1,n2]
noncomputable def wG(W:aU)(k:Int)(b:Bool):Str:=if b=true then MW "kept "++nS (W.tie k).worth else MW "gone"
noncomputable def AB(b:Bool):Str:=if b=true then MW "yes" else MW "no"
theorem va{W:aU}(ok:W.Ok){r:List (Int × Bool)}(hr:lz W ([],[]) r)(b:Bool):dc ([some (.d (aR W)),none,some (.d (.str (AB b)))],[(.s 1,.st (r.map dR) [])])=some (.str (MW "NoAsk"),[(.s 1,.st (r.map dR) [])]):=by
  have h1:=kf ok hr
  have n2:∀x0 x1 x2 x3 a b,bj false [x0,x1,x2,x3,some (.l []),a,b] (.s 4) (.l [])=some (.d (.bool true)):=fun x0 x1 x2 x3 a b=>yV (ws:=[]) (lM none) false
  generalize dO (h9 W ([],[]) r).1 (h9 W ([],[]) r).2=D at*
  generalize r.map dR=rs at*
  generalize aR W=w at*
  cases b with
  | true=>
    have s1:OE (MW "yes") none (some 4)=MW "yes":=by decide+kernel
    have sl:(MW "yes").length≤1000000:=by decide
    have q1:=Fj (a:="yes") (b:="ask ") (by decide+kernel)
    have q2:=FP "yes"
    have e0:AB true=MW "yes":=rfl
    simp? [dc,dA,i_,pI,jO,okO,Lc.slot,pb,b6,e0,s1,sl,q1,q2,h1,n2]
  | false=>
    have s1:OE (MW "no") none (some 4)=MW "no":=by decide+kernel
    have sl:(MW "no").length≤1000000:=by decide
    have q1:=Fj (a:="no") (b:="ask ") (by decide+kernel)
    have q3:=Fj (a:="no") (b:="yes") (by decide+kernel)
    have q2:=FP "no"
    have e0:AB false=MW "no":=rfl
    simp? [dc,dA,i_,pI,jO,okO,Lc.slot,pb,b6,e0,s1,sl,q1,q2,q3,h1,n2]
theorem xI{W:aU}(ok:W.Ok){r:List (Int × Bool)}(hr:lz W ([],[]) r){k:Int}(hk:iT W k)(b:Bool):dc ([some (.d (aR W)),none,some (.d (.str (AB b)))],[(.s 1,.st (r.map dR) [.int k])])=some (.str (wG W k b),[(.s 1,.st ((r++[(k,b)]).map dR) [])]):=by
  have h1:=kf ok hr
  have hl:=hr.len ok
  have o:=hk.ok ok
  have n2:∀x0 x1 x2 x3 a b,bj false [x0,x1,x2,x3,some (.l [.int k]),a,b] (.s 4) (.l [])=some (.d (.bool false)):=fun x0 x1 x2 x3 a b=>yV (ws:=[.int k]) (lM (some k)) false
  have g1':∀e:En,dM e (.d (aR W)) (.d (.int 1))=some (.d (.tuple (W.ties.map cj))):=fun e=>by rw [dw,gO,ff];rfl
  have ai:=gG (W:=W) (k:=k) hk
  have s4:∀e:En,g1 iC e [.d (.int (W.tie k).worth)]=some (.d (.str (nS (W.tie k).worth))):=fun e=>jz o.w0 (by have:=o.w1;lia)
  have s6:∀e:En,je e (.d (.str (MW "kept "))) (.d (.str (nS (W.tie k).worth)))=some (.d (.str (MW "kept "++nS (W.tie k).worth))):=fun e=>vH (by
    have:=mT o.w0 (by have:=o.w1;lia:(W.tie k).worth < 1000000)
    have:(MW "kept ").length=5:=by decide
    lia)
  have hlr:(r.map dR).length < 1000000:=by rw [NC];lia
  have e1:(r++[(k,b)]).map dR=r.map dR++[dR (k,b)]:=by simp
  rw [e1]
  unfold wG
  unfold cj at ai g1'
  generalize MW "kept "++nS (W.tie k).worth=RS at*
  generalize nS (W.tie k).worth=y at*
  generalize (W.tie k).worth=wt at*
  generalize (W.ties.map fun t=>PyData.tuple [.int t.one,.int t.other,.tuple [.int t.top,.int t.bot],.int t.worth])=TT at*
  generalize dO (h9 W ([],[]) r).1 (h9 W ([],[]) r).2=D at*
  generalize r.map dR=rs at*
  generalize aR W=w at*
  cases b with
  | true=>
    have s1:OE (MW "yes") none (some 4)=MW "yes":=by decide+kernel
    have sl:(MW "yes").length≤1000000:=by decide
    have q1:=Fj (a:="yes") (b:="ask ") (by decide+kernel)
    have q2:=FP "yes"
    have e0:AB true=MW "yes":=rfl
    simp? [dc,dA,i_,pI,jO,okO,Lc.slot,pb,b6,e0,s1,sl,q1,q2,h1,n2,hlr,g1',ai,s4,s6,dR]
  | false=>
    have s1:OE (MW "no") none (some 4)=MW "no":=by decide+kernel
    have sl:(MW "no").length≤1000000:=by decide
    have q1:=Fj (a:="no") (b:="ask ") (by decide+kernel)
    have q3:=Fj (a:="no") (b:="yes") (by decide+kernel)
    have q2:=FP "no"
    have e0:AB false=MW "no":=rfl
    simp? [dc,dA,i_,pI,jO,okO,Lc.slot,pb,b6,e0,s1,sl,q1,q2,q3,h1,n2,hlr,g1',ai,s4,s6,dR]
def vD(a b c:MT):List (Str × MT):=[("web",a),("run",b),("waiting",c)]
theorem pW(a b c:MT):(vD a b c).lookup ("web":Str)=some a:=rfl
theorem pV(a b c:MT):(vD a b c).lookup ("run":Str)=some b:=rfl
theorem pU(a b c:MT):(vD a b c).lookup ("waiting":Str)=some c:=rfl
theorem Dw(a b c:MT):(vD a b c).lookup ("take_ask":Str)=none:=rfl
theorem yg(a b c:MT):(vD a b c).lookup ("take_answer":Str)=none:=rfl
theorem sC(a b c:MT):(vD a b c).length < 900:=show 3 < 900 by decide
theorem yh(a b c x:MT):kW "run" x (vD a b c)=vD a x c:=rfl
theorem nu(a b c x:MT):kW "waiting" x (vD a b c)=vD a b x:=rfl
theorem cE(c:Lc)(o:Ob)(r:hX):NJ c ((c,o)::r)=some o:=by rw [NP];simp
theorem gC(c:Lc)(o o':Ob):lR c o' [(c,o)]=[(c,o')]:=by simp [lR]
def wO(o:Option Int):MT:=o.elim .none .int
def i4(W:aU)(r:List (Int × Bool))(o:Option Int):Ob:=.dk (vD (aR W) (.tuple (r.map dR)) (wO o))
theorem Bj(w:MT):aV ([none,some (.d w)],[(.s 0,.dk [])])=some (.none,[(.s 0,.dk (vD w (.tuple []) .none))]):=by
  have p1:kW "waiting" .none (kW "run" (.tuple []) (kW "web" w []))=vD w (.tuple []) .none:=rfl
  have q1:(kW "web" w []).length < 900:=show 1 < 900 by decide
  have q2:(kW "run" (.tuple []) (kW "web" w [])).length < 900:=show 2 < 900 by decide
  simp? [aV,dA,gL,bc,eN,aE,jO,okO,Lc.slot,cE,gC,p1,q1,q2]
theorem Dv{W:aU}(ok:W.Ok){r:List (Int × Bool)}{o:Option Int}{k:Int}(hr:lz W ([],[]) r)(hk:iT W k)(g:Bool)(hg:g=(o.isNone&&W.may (h9 W ([],[]) r).1 (h9 W ([],[]) r).2 k)):a_ ([none,some (.d (.int k))],[(.s 0,i4 W r o)])=some (.str (if g=true then MW "asked" else MW "NoAsk"),[(.s 0,i4 W r (if g=true then some k else o))]):=by
  have st:=hr.st ok (ic.first W)
  have h1:=oZ ok hr
  have h2:=xK ok (taken:=(h9 W ([],[]) r).2) st.inw (by have:=(xF ok st).1;lia) hk
  unfold i4
  generalize W.may (h9 W ([],[]) r).1 (h9 W ([],[]) r).2 k=mb at*
  generalize dO (h9 W ([],[]) r).1 (h9 W ([],[]) r).2=D at*
  generalize r.map dR=rs at*
  generalize aR W=w at*
  cases o with
  | some j=>
    subst hg
    simp? [a_,dA,cC,bc,fV,bS,dh,eN,vk,jS,ci,hV,o6,bX,iX,bQ,aE,jO,okO,Lc.slot,cE,gC,pW,pV,pU,sC,nu,wO,L2.boolD,sM,h1,h2]
  | none=>
    cases mb with
    | true=>
      subst hg
      simp? [a_,dA,cC,bc,fV,bS,dh,eN,vk,jS,ci,hV,o6,bX,iX,bQ,aE,jO,okO,Lc.slot,cE,gC,pW,pV,pU,sC,nu,wO,L2.boolD,pZ,h1,h2]
    | false=>
      subst hg
      simp? [a_,dA,cC,bc,fV,bS,dh,eN,vk,jS,ci,hV,o6,bX,iX,bQ,aE,jO,okO,Lc.slot,cE,gC,pW,pV,pU,sC,nu,wO,L2.boolD,pZ,h1,h2]
theorem AO{W:aU}{r:List (Int × Bool)}(b:Bool):aM ([none,some (.d (.bool b))],[(.s 0,i4 W r none)])=some (.str (MW "NoAsk"),[(.s 0,i4 W r none)]):=by
  unfold i4
  simp? [aM,dA,bP,bc,fV,bS,dh,ci,hV,bQ,aE,jO,okO,Lc.slot,cE,pU,wO,L2.boolD,Dy]
theorem Du{W:aU}(ok:W.Ok){r:List (Int × Bool)}{k:Int}(hl:r.length≤16)(hk:iT W k)(b:Bool):aM ([none,some (.d (.bool b))],[(.s 0,i4 W r (some k))])=some (.str (wG W k b),[(.s 0,i4 W (r++[(k,b)]) none)]):=by
  have o:=hk.ok ok
  have g1':∀e:En,dM e (.d (aR W)) (.d (.int 1))=some (.d (.tuple (W.ties.map cj))):=fun e=>by rw [dw,gO,ff];rfl
  have ai:=gG (W:=W) (k:=k) hk
  have e1:(r++[(k,b)]).map dR=r.map dR++[dR (k,b)]:=by simp
  have n1:(W.tie k).worth.natAbs.log2 < 1900:=by
    have:=o.w0;have:=o.w1
    have:=Nat.log2_le_self (W.tie k).worth.natAbs
    lia
  have n2:(nS (W.tie k).worth).length≤1000:=NG (mT o.w0 (by have:=o.w1;lia)) (by decide)
  have n3:MW (W.tie k).worth.repr=nS (W.tie k).worth:=rfl
  have n4:∀y:Str,Pm++y=y:=fun y=>by
    obtain⟨c⟩:=y
    show(⟨#[]++c⟩:Str)=⟨c⟩
    rw [Array.empty_append]
  have n6:∀(e:En) (d:MT),cx e (.d (.tuple (r.map dR))) (.d (.tuple [d]))=some (.d (.tuple (r.map dR++[d]))):=fun e d=>by
    have h1:vF e (.d (.tuple (r.map dR))) (.d (.tuple [d]))=none:=rfl
    have h2:nK e (.d (.tuple (r.map dR))) (.d (.tuple [d]))=some (.d (.tuple (r.map dR++[d]))):=by
      have:(r.map dR).length+[d].length≤1000000:=by rw [NC,List.length_singleton];lia
      unfold nK
      simp only [eH]
      rw [if_pos this]
    rw [show cx e (.d (.tuple (r.map dR))) (.d (.tuple [d]))=(vF e (.d (.tuple (r.map dR))) (.d (.tuple [d]))).or ((nK e (.d (.tuple (r.map dR))) (.d (.tuple [d]))).or (vG e (.d (.tuple (r.map dR))) (.d (.tuple [d])))) from rfl,h1,h2]
    rfl
  have n5:("kept ":Str).length≤1000:=by decide
  unfold i4
  rw [e1]
  unfold wG
  unfold cj at ai g1'
  generalize (W.ties.map fun t=>PyData.tuple [.int t.one,.int t.other,.tuple [.int t.top,.int t.bot],.int t.worth])=TT at*
  generalize r.map dR=rs at*
  generalize aR W=w at*
  cases b with
  | true=>simp? [aM,dA,bP,bc,fV,bS,dh,lg,eN,ci,hV,vh,Al,bQ,aE,gn,jO,okO,Lc.slot,cE,gC,pW,pV,pU,sC,nu,yh,wO,L2.boolD,ym,g1',ai,n1,n2,n3,n4,n5,n6,dR]
  | false=>simp? [aM,dA,bP,bc,fV,bS,dh,lg,eN,ci,hV,vh,Al,bQ,aE,gn,jO,okO,Lc.slot,cE,gC,pW,pV,pU,sC,nu,yh,wO,L2.boolD,ym,g1',ai,n6,dR]
theorem uA{e:En}{x a b:Str}(hx:NK x=true)(ha:NK a=true)(hb:NK b=true):uj false e (.d (.str x)) (.d (.tuple [.str a,.str b]))=some (.d (.bool (decide (a=x) || decide (b=x)))):=by
  have v:∀y:Str,Oy (.str y) (.str x)=decide (y=x):=fun y=>by
    show(y==x)=decide (y=x)
    by_cases c:y=x<;>simp [c]
  unfold uj
  simp only [gN,eH,Nv]
  rw [if_pos (by simp [NR,Ox,Oj,hx,ha,hb])]
  rw [if_neg (by decide),Qy,Qy,List.any_nil,v,v,Bool.or_false]
theorem vL{e:En}{x:Str}:xa "str" e (.d (.str x))=some (.d (.bool true)):=rfl
theorem zZ{W:aU}{r:List (Int × Bool)}{o:Option Int}{t:Str}{r':List (Int × Bool)}{o':Option Int}(b:Bool)(h:aM ([none,some (.d (.bool b))],[(.s 0,i4 W r o)])=some (.str t,[(.s 0,i4 W r' o')])):bM ([none,some (.d (.str (AB b)))],[(.s 0,i4 W r o)])=some (.str t,[(.s 0,i4 W r' o')]):=by
  unfold i4 at*
  cases b with
  | true=>
    have q1:=fun e=>uA (e:=e) (x:=MW "yes") (a:=MW "yes") (b:=MW "no") (aO _) (aO _) (aO _)
    have q2:=FP "yes"
    have e0:AB true=MW "yes":=rfl
    simp? [bM,dA,gh,bc,fV,bS,dh,bW,lV,dJ,eP,oj,pv,jL,L2.locs,aE,gn,jO,okO,Lc.slot,cE,gC,yg,e0,q1,q2,vL,h]
  | false=>
    have q1:=fun e=>uA (e:=e) (x:=MW "no") (a:=MW "yes") (b:=MW "no") (aO _) (aO _) (aO _)
    have q2:=Fj (a:="no") (b:="yes") (by decide+kernel)
    have e0:AB false=MW "no":=rfl
    simp? [bM,dA,gh,bc,fV,bS,dh,bW,lV,dJ,eP,oj,pv,jL,L2.locs,aE,gn,jO,okO,Lc.slot,cE,gC,yg,e0,q1,q2,vL,h]
theorem B5{W:aU}(ok:W.Ok){r:List (Int × Bool)}{o:Option Int}{k:Int}(hk:iT W k){t:Str}{o':Option Int}(h:a_ ([none,some (.d (.int k))],[(.s 0,i4 W r o)])=some (.str t,[(.s 0,i4 W r o')])):bM ([none,some (.d (.str (Lk k)))],[(.s 0,i4 W r o)])=some (.str t,[(.s 0,i4 W r o')]):=by
  obtain⟨k0,k1⟩:=id hk
  have wl:=ok.len
  have k1':k < 16:=by lia
  have n5:=IL k0 k1'
  have q1:=fun e=>uA (e:=e) (x:=Lk k) (a:=MW "yes") (b:=MW "no") (yJ k) (aO _) (aO _)
  have q2:=fun e neg=>eR (e:=e) (neg:=neg) (a:=Lk k) (b:=MW "back") (yJ k) (aO _)
  have d0:(Lk k=MW "back")=False:=eq_false (n5 "back" (by decide))
  have d1:(MW "yes"=Lk k)=False:=eq_false fun z=>n5 "yes" (by decide) z.symm
  have d2:(MW "no"=Lk k)=False:=eq_false fun z=>n5 "no" (by decide) z.symm
  have q3:(HQ.any fun x=>Lk k==x)=false:=by
    have e:∀{s:String},s∈["yes","no","may","kept","back","best","bound"]→(Lk k==MW s)=false:=fun{s} hs=>beq_eq_false_iff_ne.mpr (n5 s hs)
    show(Lk k==MW "may" || (Lk k==MW "best" || (Lk k==MW "bound" || (Lk k==MW "kept" || false))))=false
    rw [e (by decide),e (by decide),e (by decide),e (by decide)]
    rfl
  have h2:=rO ok hk
  unfold i4 at*
  generalize Lk k=x at*
  simp? [bM,dA,gh,bc,fV,bS,dh,lg,vh,B',o6,bX,iX,bQ,b6,bW,lV,dJ,eP,oj,pv,jL,L2.locs,aE,gn,jO,okO,Lc.slot,cE,gC,pW,pV,Dw,q1,q2,q3,d0,d1,d2,vL,ym,h2,h]
theorem vd{x t:Str}{ob ob':Ob}(hx:NK t=true)(h:bM ([none,some (.d (.str x))],[(.s 0,ob)])=some (.str t,[(.s 0,ob')])){fs:List (Str × MT)}(hb:ob=.dk fs)(hm:fs.lookup ("say":Str)=none):iH ([none,some (.d (.str x)),some (.d (.str t))],[(.s 0,ob)])=some (.bool true,[(.s 0,ob')]):=by
  subst hb
  have q:=fun e neg=>eR (e:=e) (neg:=neg) (a:=t) (b:=t) hx hx
  simp? [iH,dA,vy,bc,lg,bS,bW,lV,dJ,eP,oj,pv,jL,L2.locs,aE,gn,jO,okO,Lc.slot,cE,gC,hm,h,q,vL]
theorem Bi{W:aU}{a t:List Int}{k:Int}(h:W.may a t k=true):k∉a:=by
  simp only [aU.may,NX,Bool.not_eq_true',List.contains_eq_mem,decide_eq_false_iff_not] at h
  intro z
  simp_all
theorem AG(W:aU)(k:Int)(b:Bool):NK (wG W k b)=true:=by
  unfold wG
  split
  · exact qq (aO _) (vO _)
  · exact aO _
structure Iv (W:aU) (r:List (Int × Bool)) (o:Option Int):Prop where
  run:lz W ([],[]) r
  wait:∀k,o=some k→iT W k∧k∉(h9 W ([],[]) r).1
def Fg(r:List (Int × Bool))(o:Option Int):Ob:=.st (r.map dR) (oL o)
def Tl(W:aU)(x:Str)(r:List (Int × Bool))(o:Option Int)(r':List (Int × Bool))(o':Option Int)(t:Str):Prop:=dc ([some (.d (aR W)),none,some (.d (.str x))],[(.s 1,Fg r o)])=some (.str t,[(.s 1,Fg r' o')])∧iH ([none,some (.d (.str x)),some (.d (.str t))],[(.s 0,i4 W r o)])=some (.bool true,[(.s 0,i4 W r' o')])
theorem p7{W:aU}(ok:W.Ok){r:List (Int × Bool)}{o:Option Int}(h:Iv W r o){x:Str}(hx:Ln W False x):∃r' o' t,Iv W r' o'∧Tl W x r o r' o' t:=by
  have hl:=h.run.len ok
  have yn:∀b,∃r' o' t,Iv W r' o'∧Tl W (AB b) r o r' o' t:=fun b=>by
    cases o with
    | none=>exact⟨r,none,_,h,va ok h.run b,vd (aO _) (zZ b (AO b)) rfl rfl⟩
    | some k=>
      obtain⟨hk,hn⟩:=h.wait k rfl
      exact⟨r++[(k,b)],none,_,⟨h.run.snoc hk hn,fun j z=>by cases z⟩,xI ok h.run hk b,vd (AG _ _ _) (zZ b (Du ok hl hk b)) rfl rfl⟩
  cases hx with
  | ask hk=>
    rename_i k
    obtain⟨g,hg⟩:∃g,g=(o.isNone&&W.may (h9 W ([],[]) r).1 (h9 W ([],[]) r).2 k):=⟨_,rfl⟩
    refine⟨r,if g=true then some k else o,if g=true then MW "asked" else MW "NoAsk",⟨h.run,fun j z=>?_⟩,xJ ok h.run hk g hg,vd (by split<;>exact aO _) (B5 ok hk (Dv ok h.run hk g hg)) rfl rfl⟩
    by_cases c:g=true
    · rw [if_pos c] at z
      cases z
      rw [c] at hg
      exact⟨hk,Bi (Ra.mp hg.symm).2⟩
    · rw [if_neg c] at z
      exact h.wait j z
  | yes=>exact yn true
  | no=>exact yn false
  | back z=>exact z.elim
theorem nJ{W1:List Nat}{g:FG}{f:XS}(P:Nat→EX→Prop):∀(items:List MT) (k:Nat) (x:EX),(∀i d x,items[i]?=some d→P (k+i) x→∃e1 x2,jO W1 x.2=true∧g d x.1=some e1∧okO x.2 e1=true∧f (e1,x.2)=some (.nx x2)∧P (k+i+1) x2)→P k x→∃x',sI W1 g f items x=some (.nx x')∧P (k+items.length) x'
  | [],k,x,_,h=>⟨x,rfl,h⟩
  | d::r,k,x,hs,h=>by
    obtain⟨e1,x2,h1,h2,h3,h4,h5⟩:=hs 0 d x rfl h
    obtain⟨x',h6,h7⟩:=nJ P r (k+1) x2 (fun i y x hy hp=>by
      have:=hs (i+1) y x (by simpa using hy) (by rw [show k+(i+1)=k+1+i by lia];exact hp)
      rw [show k+(i+1)+1=k+1+i+1 by lia] at this
      exact this) h5
    refine⟨x',?_,by rw [OU,show k+(r.length+1)=k+1+r.length by lia];exact h7⟩
    unfold sI
    simp only [h1,h2,h3,h4,Nv,if_true]
    exact h6
def jy(ns ds:List Int)(v2:Option Sv)(W:aU)(v6 v7 v8:Option Sv):En:=[some (.d (.list (ns.map .int))),some (.l (ds.map .int)),v2,some (.d (aR W)),none,none,v6,v7,v8]
def jl(s0 s1 d0 d1:Ob):hX:=[(.it 5 0,s0),(.it 5 1,s1),(.it 4 0,d0),(.it 4 1,d1)]
structure P2 where
  r:List (Int × Bool)
  o:Option Int
def gc(W:aU)(p q:P2):hX:=jl (Fg p.r p.o) (Fg q.r q.o) (i4 W p.r p.o) (i4 W q.r q.o)
theorem Jt(a b c d:Ob):NJ (Lc.it 5 0) (jl a b c d)=some a:=rfl
theorem Ju(a b c d:Ob):NJ (Lc.it 5 1) (jl a b c d)=some b:=rfl
theorem Jr(a b c d:Ob):NJ (Lc.it 4 0) (jl a b c d)=some c:=rfl
theorem Js(a b c d:Ob):NJ (Lc.it 4 1) (jl a b c d)=some d:=rfl
theorem Jz(a b c d o:Ob):lR (Lc.it 5 0) o (jl a b c d)=jl o b c d:=rfl
theorem JA(a b c d o:Ob):lR (Lc.it 5 1) o (jl a b c d)=jl a o c d:=rfl
theorem Jx(a b c d o:Ob):lR (Lc.it 4 0) o (jl a b c d)=jl a b o d:=rfl
theorem Jy(a b c d o:Ob):lR (Lc.it 4 1) o (jl a b c d)=jl a b c o:=rfl
theorem Eo(a b c d:Ob){e:En}(h4:e[4]?=some none)(h5:e[5]?=some none):okO (jl a b c d) e=true:=by
  simp [okO,jl,Lc.slot,h4,h5]
theorem Ai{W:aU}{x t:Str}{r r':List (Int × Bool)}{o o':Option Int}(h:Tl W x r o r' o' t){q:P2}(w:Int)(hw:w=0∨w=1){ns d0:List Int}{v2 v6:Option Sv}:
    fV (jS (ci (bW 3 iH (ud 4 (ab 8) (dJ (aE (ab 7)) (dJ (bW 3 dc (dJ (aE (ab 3)) (ud 5 (ab 8) (dJ (aE (ab 7)) eP)))) eP)))))) (bS (aE (vC (.bool false)))) dh (jy ns d0 v2 W v6 (some (.d (.str x))) (some (.d (.int w))),if w=0 then gc W ⟨r,o⟩ q else gc W q ⟨r,o⟩)=some (.nx (jy ns d0 v2 W v6 (some (.d (.str x))) (some (.d (.int w))),if w=0 then gc W ⟨r',o'⟩ q else gc W q ⟨r',o'⟩)):=by
  obtain⟨p1,p2⟩:=h
  have ok4:∀(a b c d:Ob),okO (jl a b c d) [some (.d (.list (ns.map .int))),some (.l (d0.map .int)),v2,some (.d (aR W)),none,none,v6,some (.d (.str x)),some (.d (.int w))]=true:=fun a b c d=>Eo a b c d rfl rfl
  unfold gc jy
  generalize i4 W r o=D0 at*
  generalize i4 W r' o'=D1 at*
  generalize i4 W q.r q.o=D2 at*
  generalize Fg q.r q.o=S2 at*
  generalize Fg r o=S0 at*
  generalize Fg r' o'=S1 at*
  generalize aR W=wb at*
  generalize ns.map PyData.int=N at*
  generalize d0.map PyData.int=d0 at*
  rcases hw with rfl | rfl
  · simp? [fV,dh,jS,ci,bW,ud,dJ,eP,oj,pv,jL,L2.locs,aE,cE,Jt,Ju,Jr,Js,Jz,JA,Jx,Jy,ok4,L2.boolD,p1,p2]
  · simp? [fV,dh,jS,ci,bW,ud,dJ,eP,oj,pv,jL,L2.locs,aE,cE,Jt,Ju,Jr,Js,Jz,JA,Jx,Jy,ok4,L2.boolD,p1,p2]
def Df(W:aU)(p:P2):Prop:=Iv W p.r p.o
theorem A0{W:aU}(ok:W.Ok){ns ds:List Int}(hd:iY ds){v2 v6 v7 v8:Option Sv}{p q:P2}(hp:Df W p)(hq:Df W q):∃ds' v7' v8' p' q',FY (jy ns ds v2 W v6 v7 v8,gc W p q)=some (.nx (jy ns ds' v2 W v6 v7' v8',gc W p' q'))∧iY ds'∧Df W p'∧Df W q':=by
  obtain⟨x,hx,ht⟩:=Fq ok hd (menu:=[MW "ask",MW "yes",MW "ask",MW "no",MW "ask",MW "no",MW "ask"]) (by decide+kernel) (by decide)
  rw [show(MW "back"∈[MW "ask",MW "yes",MW "ask",MW "no",MW "ask",MW "no",MW "ask"])=False from eq_false (by decide+kernel)] at hx
  simp only [ND,Oe] at ht
  have hd1:iY ds.tail:=fun x hx=>hd x (QY hx)
  have hd2:iY ds.tail.tail:=fun x hx=>hd1 x (QY hx)
  have n1:=vc ds.tail
  have gm:∀e:En,bu e (.d (.int (nx ds.tail))) (.d (.int 5))=some (.d (.int (nx ds.tail % 5))):=fun e=>aW (by decide)
  obtain⟨w,hw,hg⟩:∃w:Int,(w=0∨w=1)∧∀e:En,g1 pz e [.d (.bool (nx ds.tail % 5==0))]=some (.d (.int w)):=by
    cases c:(nx ds.tail % 5==0) with
    | true=>exact⟨1,.inr rfl,fun e=>rfl⟩
    | false=>exact⟨0,.inl rfl,fun e=>rfl⟩
  have ok4:∀{e:En},e[4]?=some none→e[5]?=some none→okO (gc W p q) e=true:=fun h4 h5=>Eo _ _ _ _ h4 h5
  have s1:de [7] (bi 7 (cR 3 jg (aa (ab 1) (aa (ab 3) (aa (d_ (aa (vC (.str ("ask":Str))) (aa (vC (.str ("yes":Str))) (aa (vC (.str ("ask":Str))) (aa (vC (.str ("no":Str))) (aa (vC (.str ("ask":Str))) (aa (vC (.str ("no":Str))) (aa (vC (.str ("ask":Str))) ah)))))))) ah))))) (jy ns ds v2 W v6 v7 v8,gc W p q)=some (.nx (jy ns ds.tail v2 W v6 (some (.d (.str x))) v8,gc W p q)):=by
    have hq:=ok4 (e:=jy ns ds.tail v2 W v6 (some (.d (.str x))) v8) rfl rfl
    have hw:jO [7] (gc W p q)=true:=rfl
    unfold jy at*
    generalize gc W p q=OB at*
    generalize aR W=w at*
    generalize ns.map PyData.int=N at*
    generalize ds.tail.map PyData.int=d1 at*
    generalize ds.map PyData.int=d0 at*
    simp? [de,hw,ht,hq]
  have s2:de [8] (bi 8 (aB (g1 pz) (aa (ax (bj false) (ax bu (cR 1 bz (aa (ab 1) ah)) (vC (.int 5))) (vC (.int 0))) ah))) (jy ns ds.tail v2 W v6 (some (.d (.str x))) v8,gc W p q)=some (.nx (jy ns ds.tail.tail v2 W v6 (some (.d (.str x))) (some (.d (.int w))),gc W p q)):=by
    have hq:=ok4 (e:=jy ns ds.tail.tail v2 W v6 (some (.d (.str x))) (some (.d (.int w)))) rfl rfl
    have hw:jO [8] (gc W p q)=true:=rfl
    generalize hb:(nx ds.tail % 5==0)=b at*
    generalize nx ds.tail % 5=n5 at*
    generalize nx ds.tail=n0 at*
    unfold jy at*
    generalize gc W p q=OB at*
    generalize aR W=wb at*
    generalize ns.map PyData.int=N at*
    generalize ds.tail.tail.map PyData.int=d1 at*
    generalize ds.tail.map PyData.int=d0 at*
    simp? [de,hw,n1,gm,hb,hg,hq]
  have sq:∀{f g:XS} {x x1:EX},f x=some (.nx x1)→bc f g x=g x1:=fun{f g x x1} h=>by
    unfold bc
    rw [h]
    rfl
  unfold FY
  rw [sq s1,sq s2]
  rcases hw with rfl | rfl
  · obtain⟨r',o',t,h',p1⟩:=p7 ok hp hx
    exact⟨ds.tail.tail,some (.d (.str x)),some (.d (.int 0)),⟨r',o'⟩,q,Ai p1 (q:=q) 0 (.inl rfl),hd2,h',hq⟩
  · obtain⟨r',o',t,h',p1⟩:=p7 ok hq hx
    exact⟨ds.tail.tail,some (.d (.str x)),some (.d (.int 1)),p,⟨r',o'⟩,Ai p1 (q:=p) 1 (.inr rfl),hd2,hp,h'⟩
def jZ(ns ds:List Int)(v2 v3 v6 v7 v8:Option Sv):En:=[some (.d (.list (ns.map .int))),some (.l (ds.map .int)),v2,v3,none,none,v6,v7,v8]
def AA(ob:hX):Prop:=ob=[]∨∃a b c d,ob=jl a b c d
def p0:P2:=⟨[],none⟩
theorem AZ{W:aU}(ok:W.Ok){ns ds:List Int}(hd:iY ds){v2 v6 v7 v8:Option Sv}:∃ds' v6' v7' v8' p q,mj [6] ID (am 6) FY (jy ns ds v2 W v6 v7 v8,gc W p0 p0)=some (.nx (jy ns ds' v2 W v6' v7' v8',gc W p q))∧iY ds':=by
  have z0:Df W p0:=⟨trivial,fun k z=>by cases z⟩
  obtain⟨x',h1,d,w6,w7,w8,p,q,rfl,hd', -⟩:=nJ (W1:=[6]) (g:=am 6) (f:=FY) (fun _ x=>∃d w6 w7 w8 p q,x=(jy ns d v2 W w6 w7 w8,gc W p q)∧iY d∧Df W p∧Df W q) (bR 0 50) 0 (jy ns ds v2 W v6 v7 v8,gc W p0 p0) (fun i d x hx hI=>by
    obtain⟨ds1,w6,w7,w8,p,q,rfl,hd1,hi,hj⟩:=hI
    obtain⟨ds2,w7',w8',p',q',h2,hd2,hi2,hj2⟩:=A0 ok (ns:=ns) hd1 (v2:=v2) (v6:=some (.d d)) (v7:=w7) (v8:=w8) hi hj
    exact⟨jy ns ds1 v2 W (some (.d d)) w7 w8,_,rfl,rfl,rfl,h2,ds2,_,w7',w8',p',q',rfl,hd2,hi2,hj2⟩) ⟨ds,v6,v7,v8,p0,p0,rfl,hd,z0,z0⟩
  have hi:ID (jy ns ds v2 W v6 v7 v8)=some (bR 0 50,[],jy ns ds v2 W v6 v7 v8):=dY (n:=50) rfl (by decide) (by decide)
  refine⟨d,w6,w7,w8,p,q,?_,hd'⟩
  unfold mj
  rw [hi]
  exact h1
theorem za{ns ds:List Int}(hd:iY ds){v2 v3 v6 v7 v8:Option Sv}{ob:hX}(ho:AA ob):∃ds' v3' v6' v7' v8' ob',FZ (jZ ns ds v2 v3 v6 v7 v8,ob)=some (.nx (jZ ns ds' v2 v3' v6' v7' v8',ob'))∧iY ds'∧AA ob':=by
  obtain⟨W,d1,t1,hd1,ok, -, -⟩:=Hw ds 12 16 hd (by decide) (by decide) (by decide) (by decide)
  obtain⟨d2,w6,w7,w8,p,q,h2,hd2⟩:=AZ ok (ns:=ns) hd1 (v2:=v2) (v6:=v6) (v7:=v7) (v8:=v8)
  have m1:=Bj (aR W)
  refine⟨d2,some (.d (aR W)),w6,w7,w8,gc W p q,?_,hd2,.inr ⟨_,_,_,_,rfl⟩⟩
  have e1:Ob.dk (vD (aR W) (.tuple []) .none)=i4 W [] none:=rfl
  rw [e1] at m1
  have hw:jO [3] ob=true:=by
    rcases ho with rfl | ⟨a,b,c,d,rfl⟩<;>rfl
  have hok:∀e:En,e[4]?=some none→e[5]?=some none→okO ob e=true:=fun e h4 h5=>by
    rcases ho with rfl | ⟨a,b,c,d,rfl⟩
    · rfl
    · exact Eo a b c d h4 h5
  have f4:∀a b,pE 5 ([(Lc.it 4 0,a),(Lc.it 4 1,b)]++pE 4 ob)=[(Lc.it 4 0,a),(Lc.it 4 1,b)]:=fun a b=>by
    rcases ho with rfl | ⟨a',b',c',d',rfl⟩<;>rfl
  have h4:(jy ns d1 v2 W v6 v7 v8)[4]?=some none:=rfl
  have h5:(jy ns d1 v2 W v6 v7 v8)[5]?=some none:=rfl
  have hq:=hok _ h4 h5
  unfold FZ
  have s1:de [3] (bi 3 (cR 3 p_ (aa (ab 1) (aa (vC (.int 12)) (aa (vC (.int 16)) ah))))) (jZ ns ds v2 v3 v6 v7 v8,ob)=some (.nx (jy ns d1 v2 W v6 v7 v8,ob)):=by
    unfold jy at*
    unfold jZ
    generalize aR W=w at*
    generalize ns.map PyData.int=N at*
    generalize d1.map PyData.int=d1' at*
    generalize ds.map PyData.int=d0 at*
    simp? [de,hw,t1,hq]
  have n1:CV aV (aE (ab 3)) (jy ns d1 v2 W v6 v7 v8,ob)=some (i4 W [] none,(jy ns d1 v2 W v6 v7 v8,ob)):=by
    have hv:(ab 3) (jy ns d1 v2 W v6 v7 v8)=some (.d (aR W),jy ns d1 v2 W v6 v7 v8):=rfl
    unfold CV aE
    rw [hv]
    simp only [Nv,gM,hq,if_true]
    rw [m1]
    rfl
  have s2:tT 4 (gT (CV aV (aE (ab 3))) (gT (CV aV (aE (ab 3))) xl)) (jy ns d1 v2 W v6 v7 v8,ob)=some (.nx (jy ns d1 v2 W v6 v7 v8,[(Lc.it 4 0,i4 W [] none),(Lc.it 4 1,i4 W [] none)]++pE 4 ob)):=by
    unfold tT gT
    rw [n1]
    simp only [Nv,n1,NZ]
    rfl
  have s3:tT 5 (gT Eh (gT Eh xl)) (jy ns d1 v2 W v6 v7 v8,[(Lc.it 4 0,i4 W [] none),(Lc.it 4 1,i4 W [] none)]++pE 4 ob)=some (.nx (jy ns d1 v2 W v6 v7 v8,gc W p0 p0)):=by
    have hz:tT 5 (gT Eh (gT Eh xl)) (jy ns d1 v2 W v6 v7 v8,[(Lc.it 4 0,i4 W [] none),(Lc.it 4 1,i4 W [] none)]++pE 4 ob)=some (.nx (jy ns d1 v2 W v6 v7 v8,xn 5 0 [.st [] [],.st [] []]++pE 5 ([(Lc.it 4 0,i4 W [] none),(Lc.it 4 1,i4 W [] none)]++pE 4 ob))):=rfl
    rw [hz,f4]
    rfl
  have sq:∀{f g:XS} {x x1:EX},f x=some (.nx x1)→bc f g x=g x1:=fun{f g x x1} h=>by
    unfold bc
    rw [h]
    rfl
  rw [sq s1,sq s2,sq s3]
  exact h2
theorem yH(ns:List Int)(hl:ns.length≤63):∃as',sZ [.d (.list (ns.map .int))]=some (.d (.bool true),as'):=by
  obtain⟨ds,td,hd⟩:=Cd ns hl
  obtain⟨x',h1,d,v2,v3,v6,v7,v8,ob,rfl, -,htw⟩:=nJ (W1:=[2]) (g:=am 2) (f:=FZ) (fun _ x=>∃d v2 v3 v6 v7 v8 ob,x=(jZ ns d v2 v3 v6 v7 v8,ob)∧iY d∧AA ob) (bR 0 3) 0 (jZ ns ds none none none none none,[]) (fun i d x hx hI=>by
    obtain⟨ds1,v2,v3,v6,v7,v8,ob,rfl,hd1,ho⟩:=hI
    obtain⟨ds2,v3',v6',v7',v8',ob',h2,hd2,ho2⟩:=za (ns:=ns) hd1 (v2:=some (.d d)) (v3:=v3) (v6:=v6) (v7:=v7) (v8:=v8) ho
    exact⟨jZ ns ds1 (some (.d d)) v3 v6 v7 v8,_,by rcases ho with rfl | ⟨a,b,c,d,rfl⟩<;>rfl,rfl,by rcases ho with rfl | ⟨a,b,c,d,rfl⟩<;>rfl,h2,ds2,_,_,_,_,_,_,rfl,hd2,ho2⟩) ⟨ds,none,none,none,none,none,[],rfl,hd,.inl rfl⟩
  have hi:IE (jZ ns ds none none none none none)=some (bR 0 3,[],jZ ns ds none none none none none):=dY (n:=3) rfl (by decide) (by decide)
  have hfor:mj [2] IE (am 2) FZ (jZ ns ds none none none none none,[])=some (.nx (jZ ns d v2 v3 v6 v7 v8,ob)):=by
    unfold mj
    rw [hi]
    exact h1
  have hfl:ob.filter (fun p=>decide (p.1.slot < 1))=[]:=by rcases htw with rfl | ⟨a,b,c,d,rfl⟩<;>rfl
  have hok:okO ob (jZ ns d v2 v3 v6 v7 v8)=true:=by rcases htw with rfl | ⟨a,b,c,d,rfl⟩<;>rfl
  have hb:qH ([some (.d (.list (ns.map .int))),none,none,none,none,none,none,none,none],[])=some (.rt (.bool true) (jZ ns d v2 v3 v6 v7 v8,ob)):=by
    have s1:de [1] (bi 1 (cR 1 jE (aa (ab 0) ah))) ([some (.d (.list (ns.map .int))),none,none,none,none,none,none,none,none],[])=some (.nx (jZ ns ds none none none none none,[])):=by
      unfold jZ
      generalize ns.map PyData.int=N at*
      generalize ds.map PyData.int=d0 at*
      simp? [de,jO,okO,td]
    have sq:∀{f g:XS} {x x1:EX},f x=some (.nx x1)→bc f g x=g x1:=fun{f g x x1} h=>by
      unfold bc
      rw [h]
      rfl
    unfold qH
    rw [sq s1,sq hfor]
    unfold bS aE
    simp only [vC,Nv,gM,hok,if_true,NZ]
  refine⟨[.d (.list (ns.map .int))],?_⟩
  have hm:lL ([some (.d (.list (ns.map .int)))],[])=some (.bool true,[]):=by
    unfold lL dA
    rw [if_pos ⟨rfl,rfl⟩]
    show(qH ([some (.d (.list (ns.map .int))),none,none,none,none,none,none,none,none],[])).bind _=_
    rw [hb]
    dsimp only [Nv]
    rw [hfl]
    rfl
  show yM lL [.d (.list (ns.map .int))]=_
  unfold yM
  refine(if_pos (show wW [some (.d (.list (ns.map .int)))]=true from rfl)).trans ?_
  show(lL ([some (.d (.list (ns.map .int)))],[])).map _=_
  rw [hm]
  rfl
theorem CU{P:List Kg→Prop}(h:∀a0,P [a0]):∀us:List Kg,us.length=1→P us:=fun us e=>match us,e with | [a0],_=>h a0
theorem rd{P:List Kg→Prop}(h:∀a0 a1,P [a0,a1]):∀us:List Kg,us.length=2→P us:=fun us e=>match us,e with | [a0,a1],_=>h a0 a1
theorem Ay{P:List Kg→Prop}(h:∀a0 a1 a2,P [a0,a1,a2]):∀us:List Kg,us.length=3→P us:=fun us e=>match us,e with | [a0,a1,a2],_=>h a0 a1 a2
theorem Jw{P:List Kg→Prop}(h:∀a0 a1 a2 a3,P [a0,a1,a2,a3]):∀us:List Kg,us.length=4→P us:=fun us e=>match us,e with | [a0,a1,a2,a3],_=>h a0 a1 a2 a3
abbrev hQ(w:MV)(n:Str)(s:Na)(a c:xM)(d p:Kg):Prop:=(OD (kK w.params) NA n,NJ a (kK w.params),PX (kK w.params) (.ref c) n,OY (kK w.params) (.ref a))=(some (some (.ref a)),some (kF n s d p c),true,true)
theorem hm{w:MV}{h:MY}{mg:Str→Option Kg}{n:Str}{s:Na}{a c:xM}{d p:Kg}{ps:List Str}(X:(kK w.params).In h)(G:h.Ns NA mg)
    (e:hQ w n s a c d p)
    (b:∀(kV doc pm:Kg) (an:Option xM) (cdv ct:Kg) (us:List Kg),us.length=ps.length→bindArgs (Ol n n (cU s) (cc s) (ag s) .none kV doc pm an cdv ct) ⟨us,[]⟩=pure (ps.zip us)):
    dm (kK w.params) mg n s a (Ol n n (cU s) (cc s) (ag s) .none .none d p none (.ref c) .none) ps:=DD X G (congrArg (·.1) e) (congrArg (·.2.1) e) (congrArg (·.2.2.1) e) (congrArg (·.2.2.2) e) b
theorem q_(w:MV):hQ w "things_of" cB 135 134 (.none) Ax:=by kernel_rfl
theorem q4(w:MV):hQ w "many_asks" eF 140 139 (.none) Ax:=by kernel_rfl
theorem kB(w:MV):hQ w "bears_one_more" bT 147 146 (.none) Ax:=by kernel_rfl
theorem uI(w:MV):hQ w "may_ask" e_ 152 151 (.none) Ax:=by kernel_rfl
theorem mI(w:MV):hQ w "stand_behind" cA 159 158 (.none) Ax:=by kernel_rfl
theorem q5(w:MV):hQ w "number_of" eG 202 201 (.none) HM:=by kernel_rfl
theorem sW(w:MV):hQ w "row_line" d9 214 213 (.none) HM:=by kernel_rfl
theorem uH(w:MV):hQ w "kept_of" e8 219 218 (.none) HN:=by kernel_rfl
theorem pC(w:MV):hQ w "worth_kept" dH 224 223 (.none) HN:=by kernel_rfl
theorem uG(w:MV):hQ w "asks_at" g_ 229 228 (.none) Jq:=by kernel_rfl
theorem mJ(w:MV):hQ w "stand_of_run" bU 279 278 (.none) rV:=by kernel_rfl
theorem sV(w:MV):hQ w "may_line" fZ 291 290 (.none) rV:=by kernel_rfl
theorem qZ(w:MV):hQ w "kept_line" eE 310 309 (.none) rV:=by kernel_rfl
theorem pB(w:MV):hQ w "tie_to_ask" dG 317 316 (.none) rV:=by kernel_rfl
theorem yE(w:MV):hQ w "_law_mixed" k_ 374 373 (.none) gQ:=by kernel_rfl
theorem yD(w:MV):hQ w "_law_draws" k9 381 380 (.none) gQ:=by kernel_rfl
theorem Ba(w:MV):hQ w "_law_next" jq 388 387 (.none) gQ:=by kernel_rfl
theorem DO(w:MV):hQ w "_law_gcd" tR 395 394 (.none) gQ:=by kernel_rfl
theorem DP(w:MV):hQ w "_law_low" tS 402 401 (.none) gQ:=by kernel_rfl
theorem xj(w:MV):hQ w "_law_chance" jp 409 408 (.none) gQ:=by kernel_rfl
theorem yF(w:MV):hQ w "_law_worth" lc 416 415 (.none) gQ:=by kernel_rfl
theorem Bb(w:MV):hQ w "_law_ties" oK 423 422 (.none) gQ:=by kernel_rfl
theorem DR(w:MV):hQ w "_law_web" tU 430 429 (.none) gQ:=by kernel_rfl
theorem uF(w:MV):hQ w "_law_asks_of" g9 435 434 (.none) gQ:=by kernel_rfl
theorem DQ(w:MV):hQ w "_law_may" qi 442 441 (.none) gQ:=by kernel_rfl
theorem xi(w:MV):hQ w "_law_behind" jo 449 448 (.none) gQ:=by kernel_rfl
theorem uE(w:MV):hQ w "_law_askable" gZ 454 453 (.none) gQ:=by kernel_rfl
theorem A9(w:MV):hQ w "_law_kept" oI 459 458 (.none) gQ:=by kernel_rfl
theorem sU(w:MV):hQ w "_law_stand_of" fY 466 465 (.none) gQ:=by kernel_rfl
theorem sT(w:MV):hQ w "_law_row_text" fX 471 470 (.none) gQ:=by kernel_rfl
theorem DN(w:MV):hQ w "_law_due" tQ 476 475 (.none) gQ:=by kernel_rfl
theorem A_(w:MV):hQ w "_law_line" oJ 483 482 (.none) gQ:=by kernel_rfl
theorem Bc(w:MV):hQ w "_law_told" oM 490 489 (.none) gQ:=by kernel_rfl
theorem DS(w:MV):hQ w "law" oO 497 496 (.none) gQ:=by kernel_rfl
theorem all_mk{l:W.OpenLaw}{w:MV}{h:MY}{mg:Str→Option Kg}{fa:xM}(X:(kK w.params).In h)(G:h.Ns NA mg)(hfa:mg "law"=some (.ref fa)):
    ∃fd:Nj,(∀(s:MP) (v:Kg),BindsTo s fd ⟨[v],[]⟩ [("_law_script",v)])∧∀base:MY,(kK w.params).In base→base.Ns NA mg→aA l.prog w (kK w.params) mg base bY 9 fa fd ["_law_script"] (di (kK w.params) 1 sZ):=by
  have e:=hfa.symm.trans (OP X G (show OD (kK w.params) NA "law"=some (some (.ref 497)) by kernel_rfl))
  cases e
  have nn:∀{n:Str},OD (kK w.params) NA n=some none→mg n=none:=fun e=>W.mg_none_of X G e
  have T:b5 mg:=⟨nn (by kernel_rfl),nn (by kernel_rfl),nn (by kernel_rfl),nn (by kernel_rfl),nn (by kernel_rfl),nn (by kernel_rfl),nn (by kernel_rfl),nn (by kernel_rfl),nn (by kernel_rfl),nn (by kernel_rfl),nn (by kernel_rfl),nn (by kernel_rfl),nn (by kernel_rfl),nn (by kernel_rfl),nn (by kernel_rfl),nn (by kernel_rfl),nn (by kernel_rfl),nn (by kernel_rfl)⟩
  have Kr:=hm (ps:=["web","tie"]) X G (q_ w) fun _ _ _ _ _ _=>rd fun _ _=>rfl
  have KN:=hm (ps:=["web","asked","thing"]) X G (q4 w) fun _ _ _ _ _ _=>Ay fun _ _ _=>rfl
  have Ku:=hm (ps:=["web","stand","thing"]) X G (kB w) fun _ _ _ _ _ _=>Ay fun _ _ _=>rfl
  have KC:=hm (ps:=["web","stand","tie"]) X G (uI w) fun _ _ _ _ _ _=>Ay fun _ _ _=>rfl
  have Kw:=hm (ps:=["web","stand","tie","truth"]) X G (mI w) fun _ _ _ _ _ _=>Jw fun _ _ _ _=>rfl
  have KO:=hm (ps:=["word"]) X G (q5 w) fun _ _ _ _ _ _=>CU fun _=>rfl
  have Ky:=hm (ps:=["row"]) X G (sW w) fun _ _ _ _ _ _=>CU fun _=>rfl
  have KI:=hm (ps:=["run"]) X G (uH w) fun _ _ _ _ _ _=>CU fun _=>rfl
  have KD:=hm (ps:=["web","run"]) X G (pC w) fun _ _ _ _ _ _=>rd fun _ _=>rfl
  have KY:=hm (ps:=["web","stand"]) X G (uG w) fun _ _ _ _ _ _=>rd fun _ _=>rfl
  have Kp:=hm (ps:=["web","run"]) X G (mJ w) fun _ _ _ _ _ _=>rd fun _ _=>rfl
  have KA:=hm (ps:=["web","run"]) X G (sV w) fun _ _ _ _ _ _=>rd fun _ _=>rfl
  have Kv:=hm (ps:=["web","run"]) X G (qZ w) fun _ _ _ _ _ _=>rd fun _ _=>rfl
  have Kx:=hm (ps:=["web","line"]) X G (pB w) fun _ _ _ _ _ _=>rd fun _ _=>rfl
  have La:=hm (ps:=["_law_cell","_law_k"]) X G (yE w) fun _ _ _ _ _ _=>rd fun _ _=>rfl
  have Ld:=hm (ps:=["_law_script"]) X G (yD w) fun _ _ _ _ _ _=>CU fun _=>rfl
  have Ks:=hm (ps:=["_law_drawn"]) X G (Ba w) fun _ _ _ _ _ _=>CU fun _=>rfl
  have LW:=hm (ps:=["_law_one","_law_other"]) X G (DO w) fun _ _ _ _ _ _=>rd fun _ _=>rfl
  have LN:=hm (ps:=["_law_top","_law_bottom"]) X G (DP w) fun _ _ _ _ _ _=>rd fun _ _=>rfl
  have K5:=hm (ps:=["_law_number","_law_kind"]) X G (xj w) fun _ _ _ _ _ _=>rd fun _ _=>rfl
  have Ll:=hm (ps:=["_law_number","_law_kind"]) X G (yF w) fun _ _ _ _ _ _=>rd fun _ _=>rfl
  have Lz:=hm (ps:=["_law_drawn","_law_things","_law_many"]) X G (Bb w) fun _ _ _ _ _ _=>Ay fun _ _ _=>rfl
  have LR:=hm (ps:=["_law_drawn","_law_most","_law_ties_here"]) X G (DR w) fun _ _ _ _ _ _=>Ay fun _ _ _=>rfl
  have KZ:=hm (ps:=["_law_web_here","_law_asked","_law_thing"]) X G (uF w) fun _ _ _ _ _ _=>Ay fun _ _ _=>rfl
  have Ly:=hm (ps:=["_law_web_here","_law_stand","_law_tie"]) X G (DQ w) fun _ _ _ _ _ _=>Ay fun _ _ _=>rfl
  have K6:=hm (ps:=["_law_web_here","_law_stand","_law_tie","_law_truth"]) X G (xi w) fun _ _ _ _ _ _=>Jw fun _ _ _ _=>rfl
  have KR:=hm (ps:=["_law_web_here","_law_stand"]) X G (uE w) fun _ _ _ _ _ _=>rd fun _ _=>rfl
  have Lu:=hm (ps:=["_law_web_here","_law_run"]) X G (A9 w) fun _ _ _ _ _ _=>rd fun _ _=>rfl
  have KL:=hm (ps:=["_law_web_here","_law_run"]) X G (sU w) fun _ _ _ _ _ _=>rd fun _ _=>rfl
  have Kz:=hm (ps:=["_law_numbers"]) X G (sT w) fun _ _ _ _ _ _=>CU fun _=>rfl
  have L0:=hm (ps:=["_law_web_here","_law_state","_law_line_here"]) X G (DN w) fun _ _ _ _ _ _=>Ay fun _ _ _=>rfl
  have Lv:=hm (ps:=["_law_drawn","_law_web_here","_law_menu"]) X G (A_ w) fun _ _ _ _ _ _=>Ay fun _ _ _=>rfl
  have LC:=hm (ps:=["_law_desk","_law_line_here","_law_due_here"]) X G (Bc w) fun _ _ _ _ _ _=>Ay fun _ _ _=>rfl
  have MB:=hm (ps:=["_law_script"]) X G (DS w) fun _ _ _ _ _ _=>CU fun _=>rfl
  have F_Desk___init__:=j0 (K:=(kK w.params)) (x:="__init__") (qual:="Desk.__init__") (st:=cW) (f:=332) (oc:=.type "function") (od:=none) (an:=none) (osl:=#[]) (kV:=.none) (doc:=.none) (pm:=rV) (cdv:=.ref 331) (ct:=.none) (by kernel_rfl) (by kernel_rfl) (by kernel_rfl)
  have B_Desk___init__:=rS.binds F_Desk___init__ (ps:=["self","web"]) fun _ _ _ _ _ _=>rd fun _ _=>rfl
  have F_Desk_say:=j0 (K:=(kK w.params)) (x:="say") (qual:="Desk.say") (st:=iP) (f:=339) (oc:=.type "function") (od:=none) (an:=none) (osl:=#[]) (kV:=.none) (doc:=.none) (pm:=rV) (cdv:=.ref 338) (ct:=.none) (by kernel_rfl) (by kernel_rfl) (by kernel_rfl)
  have B_Desk_say:=rS.binds F_Desk_say (ps:=["self","line"]) fun _ _ _ _ _ _=>rd fun _ _=>rfl
  have me_Desk_say:ly (kK w.params) 363 "say" 339:=⟨by kernel_rfl,by kernel_rfl,by kernel_rfl⟩
  have F_Desk_take_ask:=j0 (K:=(kK w.params)) (x:="take_ask") (qual:="Desk.take_ask") (st:=cX) (f:=346) (oc:=.type "function") (od:=none) (an:=none) (osl:=#[]) (kV:=.none) (doc:=.none) (pm:=rV) (cdv:=.ref 345) (ct:=.none) (by kernel_rfl) (by kernel_rfl) (by kernel_rfl)
  have B_Desk_take_ask:=rS.binds F_Desk_take_ask (ps:=["self","tie"]) fun _ _ _ _ _ _=>rd fun _ _=>rfl
  have me_Desk_take_ask:ly (kK w.params) 363 "take_ask" 346:=⟨by kernel_rfl,by kernel_rfl,by kernel_rfl⟩
  have F_Desk_take_answer:=j0 (K:=(kK w.params)) (x:="take_answer") (qual:="Desk.take_answer") (st:=cg) (f:=353) (oc:=.type "function") (od:=none) (an:=none) (osl:=#[]) (kV:=.none) (doc:=.none) (pm:=rV) (cdv:=.ref 352) (ct:=.none) (by kernel_rfl) (by kernel_rfl) (by kernel_rfl)
  have B_Desk_take_answer:=rS.binds F_Desk_take_answer (ps:=["self","truth"]) fun _ _ _ _ _ _=>rd fun _ _=>rfl
  have me_Desk_take_answer:ly (kK w.params) 363 "take_answer" 353:=⟨by kernel_rfl,by kernel_rfl,by kernel_rfl⟩
  have F_Desk_take_back:=j0 (K:=(kK w.params)) (x:="take_back") (qual:="Desk.take_back") (st:=cH) (f:=360) (oc:=.type "function") (od:=none) (an:=none) (osl:=#[]) (kV:=.none) (doc:=.none) (pm:=rV) (cdv:=.ref 359) (ct:=.none) (by kernel_rfl) (by kernel_rfl) (by kernel_rfl)
  have B_Desk_take_back:=rS.binds F_Desk_take_back (ps:=["self"]) fun _ _ _ _ _ _=>CU fun _=>rfl
  have me_Desk_take_back:ly (kK w.params) 363 "take_back" 360:=⟨by kernel_rfl,by kernel_rfl,by kernel_rfl⟩
  have lG_47:NJ 47 (kK w.params)=some (kT [.int (0) 233,.int (1) 234] 0):=by kernel_rfl
  have m_ZERO:=OP X G (show OD (kK w.params) NA "ZERO"=some (some (.ref 47)) by kernel_rfl)
  have c_ZERO:∀F,DA (kK w.params) F (.tuple [.int (0),.int (1)]) (.ref 47):=fun F=>by simp only [DA,aN];exact⟨47,[V.int (0),V.int (1)],rfl,.inr ⟨_,_,_,lG_47,rfl,rfl,rfl,(by show 2≤Nl;decide),(.cons ⟨_,rfl⟩ (.cons ⟨_,rfl⟩ .nil))⟩,⟨_,_,rfl,rfl,⟨_,_,rfl,rfl,rfl⟩⟩⟩
  have lG_128:NJ 128 (kK w.params)=some (kT [.ref 126,.ref 127] 0):=by kernel_rfl
  have lG_126:NJ 126 (kK w.params)=some (kT [] 0):=by kernel_rfl
  have lG_127:NJ 127 (kK w.params)=some (kT [] 0):=by kernel_rfl
  have m_FIRST_STAND:=OP X G (show OD (kK w.params) NA "FIRST_STAND"=some (some (.ref 128)) by kernel_rfl)
  have c_FIRST_STAND:∀F,DA (kK w.params) F (.tuple [.tuple [],.tuple []]) (.ref 128):=fun F=>by simp only [DA,aN];exact⟨128,[V.ref 126,V.ref 127],rfl,.inr ⟨_,_,_,lG_128,rfl,rfl,rfl,(by show 2≤Nl;decide),(.cons rfl (.cons rfl .nil))⟩,⟨_,_,rfl,⟨126,[],rfl,.inr ⟨_,_,_,lG_126,rfl,rfl,rfl,(by show 0≤Nl;decide),.nil⟩,rfl⟩,⟨_,_,rfl,⟨127,[],rfl,.inr ⟨_,_,_,lG_127,rfl,rfl,rfl,(by show 0≤Nl;decide),.nil⟩,rfl⟩,rfl⟩⟩⟩
  have m_END:=OP X G (show OD (kK w.params) NA "END"=some (some (.int (-1) 384)) by kernel_rfl)
  have m_MOST_TIES_OF_BOUND:=OP X G (show OD (kK w.params) NA "MOST_TIES_OF_BOUND"=some (some (.int (10) 405)) by kernel_rfl)
  have m_MOST_FIGURES:=OP X G (show OD (kK w.params) NA "MOST_FIGURES"=some (some (.int (4) 441)) by kernel_rfl)
  have m_MOST_TIES_OF_TABLE:=OP X G (show OD (kK w.params) NA "MOST_TIES_OF_TABLE"=some (some (.int (7) 513)) by kernel_rfl)
  have mQ:=OP X G (show OD (kK w.params) NA "QUESTIONS"=some (some (.ref 318)) by kernel_rfl)
  have TQ:FH (kK w.params) w 318 [("may",291),("best",296),("bound",303),("kept",310)]:=⟨⟨[kE w.params "may" 616 (.ref 291),kE w.params "best" 617 (.ref 296),kE w.params "bound" 618 (.ref 303),kE w.params "kept" 619 (.ref 310)].toArray,4,by kernel_rfl,(.cons ⟨rfl,⟨_,rfl⟩,rfl⟩ (.cons ⟨rfl,⟨_,rfl⟩,rfl⟩ (.cons ⟨rfl,⟨_,rfl⟩,rfl⟩ (.cons ⟨rfl,⟨_,rfl⟩,rfl⟩ .nil))))⟩,by decide+kernel,rfl⟩
  have hks:[(("may":Str),(291:xM)),(("best":Str),(296:xM)),(("bound":Str),(303:xM)),(("kept":Str),(310:xM))].map (·.1)=HQ:=rfl
  have a_may:NJ ("may":Str) [(("may":Str),(291:xM)),(("best":Str),(296:xM)),(("bound":Str),(303:xM)),(("kept":Str),(310:xM))]=some 291:=rfl
  have a_kept:NJ ("kept":Str) [(("may":Str),(291:xM)),(("best":Str),(296:xM)),(("bound":Str),(303:xM)),(("kept":Str),(310:xM))]=some 310:=rfl
  have cls:ph (kK w.params) 363:=⟨by kernel_rfl,by kernel_rfl,by kernel_rfl,by kernel_rfl⟩
  have na_web:bB (kK w.params) 363 "web":=show Oq (kK w.params) (.ref 363) "web"=some none by kernel_rfl
  have na_run:bB (kK w.params) 363 "run":=show Oq (kK w.params) (.ref 363) "run"=some none by kernel_rfl
  have na_waiting:bB (kK w.params) 363 "waiting":=show Oq (kK w.params) (.ref 363) "waiting"=some none by kernel_rfl
  have MK:Mk (kK w.params) 363 332:=⟨by kernel_rfl,by kernel_rfl,by kernel_rfl,by kernel_rfl⟩
  have mC:=OP X G (show OD (kK w.params) NA "Desk"=some (some (.ref 363)) by kernel_rfl)
  refine⟨Ol "law" "law" (cU oO) (cc oO) (ag oO) .none .none (.none) gQ none (.ref 496) .none,fun s v=>.of_eq rfl,fun base _ _=>?_⟩
  have cl:∀{f:xM} {fd:Nj} {n:Str} {s:Na} {ps:List Str} {lv k:Nat} {m:FM},dm (kK w.params) mg n s f fd ps→aA l.prog w (kK w.params) mg base bY lv f fd ps (di (kK w.params) k m)→Cl l.prog w (kK w.params) mg base n s ps lv k m:=fun h g=>⟨_,_,h,g⟩
  have z_things_of:=cl Kr (rq Kr T)
  have z_many_asks:=cl KN (rl KN T z_things_of)
  have z_bears_one_more:=cl Ku (kO Ku T z_many_asks)
  have KJ:=uT (P:=l.prog) (w:=w) (base:=base) KC T z_bears_one_more z_things_of
  have z_may_ask:=cl KC KJ
  have z_stand_behind:=cl Kw (mL Kw T z_things_of)
  have z_number_of:=cl KO (rm KO T m_MOST_FIGURES)
  have z_row_line:=cl Ky (tH Ky T)
  have z_kept_of:=cl KI (uS KI T)
  have z_worth_kept:=cl KD (pG KD T z_kept_of)
  have z_asks_at:=cl KY (uR KY T z_may_ask)
  have Kq:=mM (P:=l.prog) (w:=w) (base:=base) Kp T z_stand_behind m_FIRST_STAND c_FIRST_STAND
  have z_stand_of_run:=cl Kp Kq
  have KW:=tG (P:=l.prog) (w:=w) (base:=base) KA T z_asks_at z_stand_of_run z_row_line
  have z_may_line:=cl KA KW
  have KQ:=rk (P:=l.prog) (w:=w) (base:=base) Kv T z_kept_of z_row_line z_worth_kept
  have z_kept_line:=cl Kv KQ
  have KF:=pF (P:=l.prog) (w:=w) (base:=base) Kx T z_number_of
  have z_tie_to_ask:=cl Kx KF
  have zLmixed:=cl La (y6 La T)
  have Lm:=y4 (P:=l.prog) (w:=w) (base:=base) Ld T zLmixed
  have zLdraws:=cl Ld Lm
  have Kt:=Bu (P:=l.prog) (w:=w) (base:=base) Ks T
  have zLnext:=cl Ks Kt
  have zLgcd:=cl LW (Ej LW T)
  have zLlow:=cl LN (Ek LN T zLgcd)
  have zLchance:=cl K5 (xr K5 T zLlow)
  have zLworth:=cl Ll (y8 Ll T)
  have zLties:=cl Lz (Bv Lz T zLnext zLchance zLworth)
  have LZ:=Em (P:=l.prog) (w:=w) (base:=base) LR T zLties zLnext
  have zLweb:=cl LR LZ
  have zLasks_of:=cl KZ (uQ KZ T)
  have LG:=El (P:=l.prog) (w:=w) (base:=base) Ly T zLasks_of
  have zLmay:=cl Ly LG
  have zLbehind:=cl K6 (xq K6 T)
  have K0:=uP (P:=l.prog) (w:=w) (base:=base) KR T zLmay
  have zLaskable:=cl KR K0
  have LA:=Br (P:=l.prog) (w:=w) (base:=base) Lu T
  have zLkept:=cl Lu LA
  have KS:=tF (P:=l.prog) (w:=w) (base:=base) KL T zLbehind
  have zLstand_of:=cl KL KS
  have KM:=tD (P:=l.prog) (w:=w) (base:=base) Kz T
  have zLrow_text:=cl Kz KM
  have Mf:=Bw (P:=l.prog) (w:=w) (base:=base) (C:=363) L0 T KL KS Kz KM KR K0 Ly LG Lu LA
  have LB:=Bs (P:=l.prog) (w:=w) (base:=base) Lv T zLnext
  have zLline:=cl Lv LB
  have G_Desk_take_answer:=jm (P:=l.prog) (w:=w) (base:=base) (C:=363) F_Desk_take_answer T cls na_run na_waiting na_web
  have G_Desk_take_back:=j7 (P:=l.prog) (w:=w) (base:=base) (C:=363) F_Desk_take_back T cls na_run na_waiting
  have G_Desk_take_ask:=kQ (P:=l.prog) (w:=w) (base:=base) (C:=363) F_Desk_take_ask T KC KJ Kp Kq cls na_run na_waiting na_web
  have G_Desk_say:=rA (P:=l.prog) (w:=w) (base:=base) (C:=363) F_Desk_say T Kx KF me_Desk_take_answer B_Desk_take_answer G_Desk_take_answer me_Desk_take_back B_Desk_take_back G_Desk_take_back KA KW Kv KQ me_Desk_take_ask B_Desk_take_ask G_Desk_take_ask cls na_run na_web TQ hks mQ a_may a_kept
  have LS:=y_ (P:=l.prog) (w:=w) (base:=base) (C:=363) LC T me_Desk_say B_Desk_say G_Desk_say cls
  have G_Desk___init__:=kP (P:=l.prog) (w:=w) (base:=base) (C:=363) F_Desk___init__ T cls na_run na_waiting na_web
  have MC:=Eb (Bx (P:=l.prog) (w:=w) (base:=base) (C:=363) MB T Ld Lm LR LZ MK mC B_Desk___init__ G_Desk___init__ Lv LB LC LS L0 Mf Ks Kt cls)
  exact MC
def Hd(K:MS):Sp:=fun vs H Q _=>∃(a:xM) (ns:List Int),vs=[.ref a]∧gF K H a (ns.map V.int)∧ns.length≤63∧∀H',Q (.bl true) H'
theorem DU{K:MS}{vs:List V}{H:Hp}{Q:VK}{E:XK}(h:Hd K vs H Q E):di K 1 sZ vs H Q E:=by
  obtain⟨a,ns,rfl,hS,hl,q⟩:=h
  obtain⟨as',hm⟩:=yH ns hl
  exact u_ hS hm q
theorem walk{l:W.OpenLaw}{q:MZ}{loose:List Str}{XP:(Str→Option Kg)→MY→Prop}{YP:MV→MY→Prop}{d:DefRec}{K:Params→MS}(hn:l.most=some 63)(hdf:d.params.defaults=[])
    (hY:∀(w:MV) (h:MY),YP w h→(K w.params).In h)
    (F:∀(w:MV) (mg:Str→Option Kg) (fa:xM) (h:MY),(K w.params).In h→h.Ns NA mg→mg d.name=some (.ref fa)→
      ∃fd:Nj,(∀(s:MP) (u:Kg),BindsTo s fd ⟨[u],[]⟩ [("_law_script",u)])∧∀base:MY,(K w.params).In base→base.Ns NA mg→aA l.prog w (K w.params) mg base bY 9 fa fd ["_law_script"] (di (K w.params) 1 sZ)):
    W.WalkO q loose XP YP l.row.toRowW d [] (fun f vs=>PySem.call f vs):=
  L2.walk_of (n:=63) (k:=9) (x:="_law_script") (CX:=fun _=>bY) (sp:=fun w=>di (K w.params) 1 sZ) hn (by decide) hdf ⟨rfl,by decide,by decide,rfl⟩ hY F (fun _ _ a ns hl _ hS=>DU ⟨a,ns,rfl,hS,hl,fun _=>rfl⟩) fun _ _ _ _ _ z=>z
end V87
open PySem PySem.W PyProof.Rows
set_option maxRecDepth 100000 in
set_option maxHeartbeats 0 in
theorem PySem.Challenge.cw_askedpairs_k87_asked_and_answered_holds : PySem.Challenge.rw_askedpairs_k87_asked_and_answered.Holds := by
  w_on;o_law
  refine holds_open (q:=V87.kq) (loose:=["QUESTIONS"]) (Xt:=fun s=>xlAt V87.kq [] s&&recOk (RowW.records (OpenRow.toRowW (OpenLaw.row QA))) s) (XP:=XL V87.kq []) (Yf:=Hook.obs V87.kH) (Ya:=Hook.val V87.kH) (YP:=Hook.says V87.kH) (N:=5988) V87.left (Hook.of V87.kH) (Hook.keeps V87.kH) (fun s e=>xl_of s (Ra.mp e).1) XL.keeps (by rfl) (by rfl) (by rfl) (fun s e=>recFacts_of (Ra.mp e).2) (by rfl) (by assumption) (by decide+kernel) ⟨rfl,rfl,rfl,rfl,rfl,by decide+kernel⟩ ?hw ?hc
  case hw=>w_witness2
  case hc=>exact V87.walk (l:=QA) rfl rfl (fun w h Y=>kIn_of Y) (fun w mg fa h KX G hmg=>V87.all_mk KX G hmg)
