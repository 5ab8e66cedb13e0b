import PyProof.Rows.All
import KE.KRevSl
import KE.KItem
import KE.KFromBytes
import KE.KIntText
import KE.KIsAll
import KE.KRevIter
import PySem.Challenge.RW_askedpairs_k89_what_is_kept
open PySem renaming Addr→xM,Value→Kz,Shared→Nc,PyData→Nf,Expr→Nh,World→Nj,Heap→Nk,Program→Nl,Stmt→Nm,Around→Nn,wpAny→Np,starEach→Nq,model→Nr,eval→Nt,wpAny_bind→Nu,FuncData→Nx,sizeLine→Ny,wpAny_pure→Nz,backTo→ND,Scope→NL,mainGlobals→NM,cellsFrom→NO,assignEach→NY,binaryOp→NZ,compareOp→Oc,importedModules→Og,sizeLine_eq→Oh,Keyword→Oi,NameKind→Oj,attributeBase→Oy,wpAny_mono→OB,behindInMarks→OK,call_meets→OL,bootBuiltins→ON,backToKw→OT,keywordEach→OU,swapsWith→Pa,DictEntry→Pu,wpAny_newObj_type→Px,wpAny_passesOwn→Py,sliceBounds→PD,wpAny_loadPart'→PK,foldedSetIterable→PR,wpAny_truthy_bool→Qb,swapsWithSole→Qc,swappedStores→Qd,wpAny_Call_Name_kw→Qf,mem_of_lookup→Qg,typeIs_int→Qj,intText?→Qn,wpAny_execs_nil→Qr,letOwnedTupleGo→Qs
open PySem.W renaming Frag→Ng,openSeen→On,fnOf→OA,findIn→OD,nsIn→OR,mg_of→Pe,boot_heap→Pf,emptyDict→Pi,instObj→Pl,keepIn→Po,isStarred→PJ,kia_one→PN,codeIn→Qi,lookIn→Qt,plainGet→Qu,callWith_K→Qw,methodObj→QP,hasDictIn→QT,plainGet_of→QU
open PySem.Str renaming ofString→Ni,join→Of,empty→Pc
open List renaming replicate→Nv,getElem?_set_ne→NC,size_toArray→NI,length_map→NN,map_cons→NP,getElem?_map→NT,lookup_cons→NU,all_eq_true→NV,mem_singleton→NX,lookup→Od,map_nil→Om,getElem?_set_self→Os,mem_append→Ov,mem_cons_of_mem→Ow,getElem?_eq_getElem→OF,Nodup→OI,mem_cons→OJ,length_cons→OO,append_nil→OP,nil_append→OQ,getElem?_append_left→OV,mem_cons_self→OZ,mem_append_right→Pb,ext_getElem?→Pj,map_map→Pk,range→Pm,mem_filter→Pn,nodup_cons→Pp,replicate_succ→Pq,cons_append→Pr,not_mem_nil→Pt,length_set→PL,map→PM,getElem?_set→PP,foldl→PX,mem_map→PZ,mem_range→Qa,length_append→Qh,lookup_append→Ql,flatten_cons→Qy,getElem_mem→QI,findIdx?_eq_none_iff→QK,any_cons→QL,mem_filterMap→QQ,filterMap_cons→QR,getElem?_replicate→QV,length_replicate→QW,length_eq_zero_iff→Ra,getD_eq_getElem?_getD→Rb,drop_eq_getElem_cons→Rg,drop_eq_nil_of_le→Rh,findIdx?_eq_some_iff_getElem→Rx
open Nat renaming le_refl→NA,le_trans→NR,lt_of_lt_of_le→Oe,ne_of_lt→Oq,zero_le→OS,lt_irrefl→Ph,le_of_lt→Pw,zero_add→Qm,pow_le_pow_right→QB,lt_of_le_of_lt→QZ
open Int renaming gcd→NB,emod_nonneg→Qp,emod_lt_of_pos→Qq,fdiv_mul_cancel→QC,lt_of_lt_of_le→Rm
open Option renaming bind_some→NF,map_some→Ou,getD_some→QF,map_eq_some_iff→QO
open PySem.Heap renaming lt_size→NG,get?_push_of_some→NS,get?_push_size→Oo,SameBut→PQ,size_push→Qe
open PySem.Challenge renaming pw_askedpairs_k89_what_is_kept→NH,rw_askedpairs_k89_what_is_kept→QN
open Ne renaming symm→NJ
open PySem.PyData renaming strOk→NK,canLay0→Oa,depth→Ot,canLayAll0→OG,eqv→OH,depthAll→OW,shownAll→QD,showableAll→QE
open PySem.SeqAt renaming shaped→NQ,canLay_of_shaped→QJ
open Bool renaming and_eq_true→Ol,false_ne_true→Pz,false_eq_true→QG,eq_iff_iff→QH,and_eq_true_iff→Ro
open Option.some renaming inj→Ox,injEq→Pv
open PySem.NameKind renaming free→Oz,cell→PH
open False renaming elim→OC
open PyProof.Rows renaming kindOf→OE,IntsAre→Pd,slot_tuple_getitem→PB,boot_str→Rj,callWith_type1→Rq
open PySem.Txt renaming slice→OM,split→OX,isdecimal→Qo
open PySem.PassesOwn renaming never→OY
open PySem.Obj renaming mapSeq→PF
open True renaming intro→PU
open PySem.Builtin.Tuple renaming tupleExact→PV,tupleTooMany→Rf,tupleItemsOf→Rt
open ForInStep renaming yield→PY
open PySem.F renaming slot_tuple_mul→Qk,slot_list_pop→Qz,slot_int_rmul→QA,slot_str_split→QM,plainAttrs_str→Rk
open PySem.Around renaming under→Qv
open PySem.Builtin.Slice renaming slicePlaces→Qx,sliceAdjust→QX,sliceApplied→Rr
open Array renaming length_toList→QS
open PySem.Builtin.List renaming listTooLong→QY,listExtendWith→Ru
open PySem.AutoSeq1 renaming idx_int→Re
open PySem.Builtin.Str renaming occurrences→Rl
open PySem.Builtin.SmallTypes renaming nextOf→Rw
set_option Elab.async false
set_option linter.all false
set_option maxRecDepth 100000
namespace L2
open PySem PySem.Spec PyProof.Rows
def cY(s:Nm):Arguments:=match s with
  | .FunctionDef _ a _ _ _ _ _ _ _ _=>a
  | _=>{posonlyargs:=[],args:=[],vararg:=none,kwonlyargs:=[],kw_defaults:=[],kwarg:=none,defaults:=[]}
def cj(s:Nm):List Nm:=match s with
  | .FunctionDef _ _ b _ _ _ _ _ _ _=>b
  | _=>[]
def ag(s:Nm):NL:=match s with
  | .FunctionDef _ _ _ _ _ _ sc _ _ _=>sc
  | _=>{kind:=.function,names:=[],isGenerator:=false,isCoroutine:=false}
end L2
namespace V89
open PySem PySem.Spec PyProof.Rows L2
def top(i:Nat):Nm:=NH.main.body.getD i (.Pass ⟨0,0,0,0⟩)
abbrev cI:Nm:=top 21
abbrev eS:Nm:=top 22
abbrev b6:Nm:=top 23
abbrev fH:Nm:=top 24
abbrev cH:Nm:=top 25
abbrev eT:Nm:=top 39
abbrev er:Nm:=top 41
abbrev fF:Nm:=top 43
abbrev dP:Nm:=top 44
abbrev ig:Nm:=top 46
abbrev b7:Nm:=top 57
abbrev gu:Nm:=top 59
abbrev eR:Nm:=top 62
abbrev dO:Nm:=top 63
abbrev lF:Nm:=top 67
abbrev lE:Nm:=top 68
abbrev ku:Nm:=top 69
abbrev ux:Nm:=top 70
abbrev uy:Nm:=top 71
abbrev jE:Nm:=top 72
abbrev lG:Nm:=top 73
abbrev pA:Nm:=top 74
abbrev uA:Nm:=top 75
abbrev ie:Nm:=top 76
abbrev qQ:Nm:=top 77
abbrev jD:Nm:=top 78
abbrev ic:Nm:=top 79
abbrev pw:Nm:=top 80
abbrev gr:Nm:=top 81
abbrev gq:Nm:=top 82
abbrev uw:Nm:=top 83
abbrev pz:Nm:=top 84
abbrev pB:Nm:=top 85
abbrev pF:Nm:=top 86
def yF:Nm→Nat→Nm
  | .ClassDef _ _ _ body _ _ _ _ _ _ _,j=>body.getD j (.Pass ⟨0,0,0,0⟩)
  | s,_=>s
abbrev c9:Nm:=yF (top 65) 0
abbrev i5:Nm:=yF (top 65) 1
abbrev c_:Nm:=yF (top 65) 2
abbrev cq:Nm:=yF (top 65) 3
abbrev cM:Nm:=yF (top 65) 4
def kL(n:Str)(bs mro:List Kz)(ns:xM)(sub:List Kz)(sl:Array (Option Kz)):Obj:=⟨.type "type",none,.cls {name:=n,bases:=bs,mro:=mro,ns:=ns,qualname:=n,hasDict:=true,slotNames:=[],subclasses:=sub,abstract:=false,collection:=none,hasDel:=false},sl⟩
def kM(n q:Str)(s:Nm)(doc pm:Kz)(c:xM):Obj:=⟨.type "function",none,.func (OA n q (cY s) (cj s) (ag s) .none .none doc pm none (.ref c) .none),#[]⟩
def kD(n q:Str)(a:Nat)(l:List Kz)(z:Nat):Obj:=⟨.type "code",none,.fields (Value.str n a::Value.str q (a+1)::Value.str "/claim/cut.py" (a+2)::l++[Value.str "/claim/cut.py" z]).toArray,#[]⟩
def kE(P:Params)(k:Str)(t:Tok)(v:Kz):Pu:=⟨PyData.keyHash P k,.str k t,v⟩
def kF(n:Str)(s:Nm)(doc pm:Kz)(c:xM):Obj:=⟨.type "function",none,.func (OA n n (cY s) (cj s) (ag s) .none .none doc pm none (.ref c) .none),#[]⟩
def kI(n:Int):Kz:=.int n 0
def kC(n:Str)(a:Nat)(l:List Kz)(z:Nat):Obj:=⟨.type "code",none,.fields (Value.str n a::Value.str n (a+1)::Value.str "/claim/cut.py" (a+2)::l++[Value.str "/claim/cut.py" z]).toArray,#[]⟩
def kT(l:List Kz)(n:Nat):Obj:=⟨.type "tuple",none,.seq l.toArray n,#[]⟩
def Ba:Kz:=.str "askedpairs.stands" 337
def Iw:Kz:=.str "askedpairs.lines" 439
def Iy:Kz:=.str "askedpairs.runs" 466
def JQ:Kz:=.str "askedpairs.tablepaper" 480
def sX:Kz:=.str "askedpairs.desk" 555
def hU:Kz:=.str "law_askedpairs_k89_what_is_kept" 690
def kK(P:Params):Ng:=[(3,⟨.type "dict",none,.dict (List.toArray [kE P "__name__" 165 (.str "law_askedpairs_k89_what_is_kept" 690),kE P "__doc__" 166 (.none),kE P "__package__" 167 (.none),kE P "__loader__" 168 (.builtin "__main__.__loader__#opaque"),kE P "__spec__" 169 (.none),kE P "__annotations__" 170 (.ref 6),kE P "__builtins__" 171 (.ref 4),kE P "__file__" 173 (.str "/claim/cut.py" 172),kE P "__cached__" 174 (.none),kE P "PairsError" 206 (.ref 24),kE P "TooMany" 222 (.ref 37),kE P "refuse_above" 230 (.ref 46),kE P "ZERO" 235 (.ref 47),kE P "common_divisor" 243 (.ref 54),kE P "lowest" 252 (.ref 61),kE P "plus" 260 (.ref 68),kE P "times" 268 (.ref 75),kE P "less" 276 (.ref 82),kE P "one_less" 283 (.ref 89),kE P "total" 292 (.ref 96),kE P "column_to_enter" 300 (.ref 101),kE P "is_sooner" 310 (.ref 108),kE P "row_to_leave" 324 (.ref 115),kE P "exchanged" 330 (.ref 120),kE P "best_levels" 336 (.ref 125),kE P "FIRST_STAND" 339 (.ref 128),kE P "things_of" 347 (.ref 135),kE P "many_asks" 353 (.ref 140),kE P "bears_one_more" 364 (.ref 147),kE P "may_ask" 370 (.ref 152),kE P "stand_behind" 382 (.ref 159),kE P "END" 385 (.int (-1) 384),kE P "gain_of" 394 (.ref 166),kE P "shares_worth" 402 (.ref 171),kE P "MOST_TIES_OF_BOUND" 406 (.int (10) 405),kE P "rows_of" 412 (.ref 176),kE P "limits_of" 423 (.ref 183),kE P "as_prices" 432 (.ref 190),kE P "bound" 438 (.ref 195),kE P "MOST_FIGURES" 442 (.int (4) 441),kE P "number_of" 450 (.ref 202),kE P "fraction_word" 459 (.ref 209),kE P "row_line" 465 (.ref 214),kE P "kept_of" 473 (.ref 219),kE P "worth_kept" 479 (.ref 224),kE P "asks_at" 487 (.ref 229),kE P "both_ways" 498 (.ref 236),kE P "ways_at" 504 (.ref 241),kE P "ways_worth" 510 (.ref 246),kE P "MOST_TIES_OF_TABLE" 514 (.int (7) 513),kE P "layers_by_asks" 520 (.ref 251),kE P "best_ask" 532 (.ref 258),kE P "table_by" 546 (.ref 265),kE P "table_of" 554 (.ref 272),kE P "stand_of_run" 567 (.ref 279),kE P "web_left" 573 (.ref 284),kE P "may_line" 582 (.ref 291),kE P "best_line" 588 (.ref 296),kE P "bound_line" 596 (.ref 303),kE P "kept_line" 605 (.ref 310),kE P "tie_to_ask" 615 (.ref 317),kE P "QUESTIONS" 624 (.ref 318),kE P "Desk" 689 (.ref 363),kE P "_law_mixed" 700 (.ref 374),kE P "_law_draws" 711 (.ref 381),kE P "_law_next" 718 (.ref 388),kE P "_law_gcd" 726 (.ref 395),kE P "_law_low" 735 (.ref 402),kE P "_law_chance" 744 (.ref 409),kE P "_law_worth" 752 (.ref 416),kE P "_law_ties" 771 (.ref 423),kE P "_law_web" 787 (.ref 430),kE P "_law_asks_of" 793 (.ref 435),kE P "_law_may" 805 (.ref 442),kE P "_law_behind" 818 (.ref 449),kE P "_law_askable" 824 (.ref 454),kE P "_law_kept" 830 (.ref 459),kE P "_law_stand_of" 841 (.ref 466),kE P "_law_row_text" 847 (.ref 471),kE P "_law_due" 853 (.ref 476),kE P "_law_line" 864 (.ref 483),kE P "_law_told" 874 (.ref 490),kE P "law" 888 (.ref 497)]) 83,#[]⟩),
  (135,kF "things_of" cI (.none) Ba 134),
  (134,kC "things_of" 340 [kI 75,kI 2,kI 0,kI 0,kI 3,.ref 129,.bool true,kI 181,.ref 130,.none,.ref 131,.ref 132,.ref 133,kI 345,kI 75] 346),
  (140,kF "many_asks" eS (.none) Ba 139),
  (139,kC "many_asks" 348 [kI 77,kI 3,kI 0,kI 0,kI 3,.ref 136,.bool true,kI 181,.ref 137,.none,.none,.none,.ref 138,kI 351,kI 77] 352),
  (147,kF "bears_one_more" b6 (.none) Ba 146),
  (146,kC "bears_one_more" 354 [kI 79,kI 3,kI 0,kI 0,kI 3,.ref 141,.bool true,kI 181,.ref 142,.none,.ref 143,.ref 144,.ref 145,kI 362,kI 79] 363),
  (152,kF "may_ask" fH (.none) Ba 151),
  (151,kC "may_ask" 365 [kI 82,kI 3,kI 0,kI 0,kI 3,.ref 148,.bool true,kI 181,.ref 149,.none,.none,.none,.ref 150,kI 368,kI 82] 369),
  (159,kF "stand_behind" cH (.none) Ba 158),
  (158,kC "stand_behind" 371 [kI 87,kI 4,kI 0,kI 0,kI 3,.ref 153,.bool true,kI 181,.ref 154,.none,.ref 155,.ref 156,.ref 157,kI 380,kI 87] 381),
  (202,kF "number_of" eT (.none) Iw 201),
  (201,kC "number_of" 443 [kI 122,kI 1,kI 0,kI 0,kI 3,.ref 196,.bool true,kI 181,.ref 197,.none,.ref 198,.ref 199,.ref 200,kI 448,kI 122] 449),
  (214,kF "row_line" er (.none) Iw 213),
  (213,kC "row_line" 460 [kI 130,kI 1,kI 0,kI 0,kI 3,.ref 210,.bool true,kI 181,.ref 211,.none,.none,.none,.ref 212,kI 463,kI 130] 464),
  (219,kF "kept_of" fF (.none) Iy 218),
  (218,kC "kept_of" 468 [kI 133,kI 1,kI 0,kI 0,kI 3,.ref 215,.bool true,kI 181,.ref 216,.none,.none,.none,.ref 217,kI 471,kI 133] 472),
  (224,kF "worth_kept" dP (.none) Iy 223),
  (223,kC "worth_kept" 474 [kI 135,kI 2,kI 0,kI 0,kI 3,.ref 220,.bool true,kI 181,.ref 221,.none,.none,.none,.ref 222,kI 477,kI 135] 478),
  (229,kF "asks_at" ig (.none) JQ 228),
  (228,kC "asks_at" 482 [kI 138,kI 2,kI 0,kI 0,kI 3,.ref 225,.bool true,kI 181,.ref 226,.none,.none,.none,.ref 227,kI 485,kI 138] 486),
  (279,kF "stand_of_run" b7 (.none) sX 278),
  (278,kC "stand_of_run" 557 [kI 177,kI 2,kI 0,kI 0,kI 3,.ref 273,.bool true,kI 181,.ref 274,.none,.ref 275,.ref 276,.ref 277,kI 565,kI 177] 566),
  (291,kF "may_line" gu (.none) sX 290),
  (290,kC "may_line" 574 [kI 188,kI 2,kI 0,kI 0,kI 3,.ref 285,.bool true,kI 181,.ref 286,.none,.ref 287,.ref 288,.ref 289,kI 580,kI 188] 581),
  (310,kF "kept_line" eR (.none) sX 309),
  (309,kC "kept_line" 597 [kI 204,kI 2,kI 0,kI 0,kI 3,.ref 304,.bool true,kI 181,.ref 305,.none,.ref 306,.ref 307,.ref 308,kI 603,kI 204] 604),
  (317,kF "tie_to_ask" dO (.none) sX 316),
  (316,kC "tie_to_ask" 606 [kI 207,kI 2,kI 0,kI 0,kI 3,.ref 311,.bool true,kI 181,.ref 312,.none,.ref 313,.ref 314,.ref 315,kI 613,kI 207] 614),
  (374,kF "_law_mixed" lF (.none) hU 373),
  (373,kC "_law_mixed" 692 [kI 257,kI 2,kI 0,kI 0,kI 3,.ref 368,.bool true,kI 181,.ref 369,.none,.ref 370,.ref 371,.ref 372,kI 698,kI 257] 699),
  (381,kF "_law_draws" lE (.none) hU 380),
  (380,kC "_law_draws" 701 [kI 260,kI 1,kI 0,kI 0,kI 3,.ref 375,.bool true,kI 181,.ref 376,.none,.ref 377,.ref 378,.ref 379,kI 709,kI 260] 710),
  (388,kF "_law_next" ku (.none) hU 387),
  (387,kC "_law_next" 712 [kI 273,kI 1,kI 0,kI 0,kI 3,.ref 382,.bool true,kI 181,.ref 383,.none,.ref 384,.ref 385,.ref 386,kI 716,kI 273] 717),
  (395,kF "_law_gcd" ux (.none) hU 394),
  (394,kC "_law_gcd" 719 [kI 277,kI 2,kI 0,kI 0,kI 3,.ref 389,.bool true,kI 181,.ref 390,.none,.ref 391,.ref 392,.ref 393,kI 724,kI 277] 725),
  (402,kF "_law_low" uy (.none) hU 401),
  (401,kC "_law_low" 727 [kI 281,kI 2,kI 0,kI 0,kI 3,.ref 396,.bool true,kI 181,.ref 397,.none,.ref 398,.ref 399,.ref 400,kI 733,kI 281] 734),
  (409,kF "_law_chance" jE (.none) hU 408),
  (408,kC "_law_chance" 736 [kI 284,kI 2,kI 0,kI 0,kI 3,.ref 403,.bool true,kI 181,.ref 404,.none,.ref 405,.ref 406,.ref 407,kI 742,kI 284] 743),
  (416,kF "_law_worth" lG (.none) hU 415),
  (415,kC "_law_worth" 745 [kI 294,kI 2,kI 0,kI 0,kI 3,.ref 410,.bool true,kI 181,.ref 411,.none,.ref 412,.ref 413,.ref 414,kI 750,kI 294] 751),
  (423,kF "_law_ties" pA (.none) hU 422),
  (422,kC "_law_ties" 753 [kI 296,kI 3,kI 0,kI 0,kI 3,.ref 417,.bool true,kI 181,.ref 418,.none,.ref 419,.ref 420,.ref 421,kI 769,kI 296] 770),
  (430,kF "_law_web" uA (.none) hU 429),
  (429,kC "_law_web" 772 [kI 311,kI 3,kI 0,kI 0,kI 3,.ref 424,.bool true,kI 181,.ref 425,.none,.ref 426,.ref 427,.ref 428,kI 785,kI 311] 786),
  (435,kF "_law_asks_of" ie (.none) hU 434),
  (434,kC "_law_asks_of" 788 [kI 321,kI 3,kI 0,kI 0,kI 3,.ref 431,.bool true,kI 181,.ref 432,.none,.none,.none,.ref 433,kI 791,kI 321] 792),
  (442,kF "_law_may" qQ (.none) hU 441),
  (441,kC "_law_may" 794 [kI 323,kI 3,kI 0,kI 0,kI 3,.ref 436,.bool true,kI 181,.ref 437,.none,.ref 438,.ref 439,.ref 440,kI 803,kI 323] 804),
  (449,kF "_law_behind" jD (.none) hU 448),
  (448,kC "_law_behind" 806 [kI 331,kI 4,kI 0,kI 0,kI 3,.ref 443,.bool true,kI 181,.ref 444,.none,.ref 445,.ref 446,.ref 447,kI 816,kI 331] 817),
  (454,kF "_law_askable" ic (.none) hU 453),
  (453,kC "_law_askable" 819 [kI 337,kI 2,kI 0,kI 0,kI 3,.ref 450,.bool true,kI 181,.ref 451,.none,.none,.none,.ref 452,kI 822,kI 337] 823),
  (459,kF "_law_kept" pw (.none) hU 458),
  (458,kC "_law_kept" 825 [kI 339,kI 2,kI 0,kI 0,kI 3,.ref 455,.bool true,kI 181,.ref 456,.none,.none,.none,.ref 457,kI 828,kI 339] 829),
  (466,kF "_law_stand_of" gr (.none) hU 465),
  (465,kC "_law_stand_of" 831 [kI 341,kI 2,kI 0,kI 0,kI 3,.ref 460,.bool true,kI 181,.ref 461,.none,.ref 462,.ref 463,.ref 464,kI 839,kI 341] 840),
  (471,kF "_law_row_text" gq (.none) hU 470),
  (470,kC "_law_row_text" 842 [kI 346,kI 1,kI 0,kI 0,kI 3,.ref 467,.bool true,kI 181,.ref 468,.none,.none,.none,.ref 469,kI 845,kI 346] 846),
  (476,kF "_law_due" uw (.none) hU 475),
  (475,kC "_law_due" 848 [kI 350,kI 3,kI 0,kI 0,kI 3,.ref 472,.bool true,kI 181,.ref 473,.none,.none,.none,.ref 474,kI 851,kI 350] 852),
  (483,kF "_law_line" pz (.none) hU 482),
  (482,kC "_law_line" 854 [kI 375,kI 3,kI 0,kI 0,kI 3,.ref 477,.bool true,kI 181,.ref 478,.none,.ref 479,.ref 480,.ref 481,kI 862,kI 375] 863),
  (490,kF "_law_told" pB (.none) hU 489),
  (489,kC "_law_told" 865 [kI 383,kI 3,kI 0,kI 0,kI 3,.ref 484,.bool true,kI 181,.ref 485,.none,.ref 486,.ref 487,.ref 488,kI 872,kI 383] 873),
  (497,kF "law" pF (.none) hU 496),
  (496,kC "law" 875 [kI 386,kI 1,kI 0,kI 0,kI 3,.ref 491,.bool true,kI 181,.ref 492,.none,.ref 493,.ref 494,.ref 495,kI 886,kI 386] 887),
  (332,kM "__init__" "Desk.__init__" c9 (.none) sX 331),
  (331,kD "__init__" "Desk.__init__" 637 [kI 216,kI 2,kI 0,kI 0,kI 3,.ref 326,.bool true,kI 181,.ref 327,.none,.ref 328,.ref 329,.ref 330,kI 642,kI 216] 643),
  (339,kM "say" "Desk.say" i5 (.none) sX 338),
  (338,kD "say" "Desk.say" 645 [kI 221,kI 2,kI 0,kI 0,kI 3,.ref 333,.bool true,kI 181,.ref 334,.none,.ref 335,.ref 336,.ref 337,kI 652,kI 221] 653),
  (346,kM "take_ask" "Desk.take_ask" c_ (.none) sX 345),
  (345,kD "take_ask" "Desk.take_ask" 655 [kI 234,kI 2,kI 0,kI 0,kI 3,.ref 340,.bool true,kI 181,.ref 341,.none,.ref 342,.ref 343,.ref 344,kI 660,kI 234] 661),
  (353,kM "take_answer" "Desk.take_answer" cq (.none) sX 352),
  (352,kD "take_answer" "Desk.take_answer" 663 [kI 240,kI 2,kI 0,kI 0,kI 3,.ref 347,.bool true,kI 181,.ref 348,.none,.ref 349,.ref 350,.ref 351,kI 669,kI 240] 670),
  (360,kM "take_back" "Desk.take_back" cM (.none) sX 359),
  (359,kD "take_back" "Desk.take_back" 672 [kI 248,kI 1,kI 0,kI 0,kI 3,.ref 354,.bool true,kI 181,.ref 355,.none,.ref 356,.ref 357,.ref 358,kI 676,kI 248] 677),
  (47,kT [.int (0) 233,.int (1) 234] 0),
  (128,kT [.ref 126,.ref 127] 0),
  (126,kT [] 0),
  (127,kT [] 0),
  (318,⟨.type "dict",none,.dict (List.toArray [kE P "may" 616 (.ref 291),kE P "best" 617 (.ref 296),kE P "bound" 618 (.ref 303),kE P "kept" 619 (.ref 310)]) 4,#[]⟩),
  (363,kL "Desk" [.type "object"] [.ref 363,.type "object"] 362 [] #[none,none,some (.str "Desk" 625),some (.str "Desk" 633),some (.builtin "object.__new__"),some (.bool true)]),
  (362,⟨.type "dict",none,.dict (List.toArray [kE P "__module__" 632 (.str "askedpairs.desk" 555),kE P "__firstlineno__" 636 (.int (214) 635),kE P "__init__" 644 (.ref 332),kE P "say" 654 (.ref 339),kE P "take_ask" 662 (.ref 346),kE P "take_answer" 671 (.ref 353),kE P "take_back" 678 (.ref 360),kE P "__static_attributes__" 682 (.ref 361),kE P "__dict__" 684 (.ref 364),kE P "__weakref__" 686 (.ref 365),kE P "__doc__" 687 (.none)]) 4,#[]⟩)]
def kA:List xM:=[3,135,134,140,139,147,146,152,151,159,158,202,201,214,213,219,218,224,223,229,228,279,278,291,290,310,309,317,316,374,373,381,380,388,387,395,394,402,401,409,408,416,415,423,422,430,429,435,434,442,441,449,448,454,453,459,458,466,465,471,470,476,475,483,482,490,489,497,496,332,331,339,338,346,345,353,352,360,359,47,128,126,127,318,363,362]
def kq:Nl:={NH with main:={NH.main with body:=[top 1,top 2,top 3,top 5,top 6,top 7,top 8,top 9,top 10,top 11,top 12,top 14,top 15,top 16,top 17,top 18,top 20,top 21,top 22,top 23,top 24,top 25,top 26,top 28,top 30,top 32,top 33,top 34,top 35,top 36,top 38,top 39,top 40,top 41,top 43,top 44,top 46,top 47,top 48,top 49,top 51,top 52,top 53,top 54,top 55,top 57,top 58,top 59,top 60,top 61,top 62,top 63,top 64,top 65,top 67,top 68,top 69,top 70,top 71,top 72,top 73,top 74,top 75,top 76,top 77,top 78,top 79,top 80,top 81,top 82,top 83,top 84,top 85,top 86]}}
def kH:W.Hook:=W.kHook kK kA (fun _=>by kernel_rfl)
abbrev lX(s:Nc):Bool:=W.xlAt kq [] s&&W.recOk (W.RowW.records (W.OpenRow.toRowW (W.OpenLaw.row QN))) s
def xj(p:Nl)(w:Nj):Nat→W.SharedT→Thread→Option W.SharedT
  | 0,_,_=>none
  | n+1,s,t=>match W.through t with
    | true=>some s
    | false=>match W.stepOk 11 (some (.ref 6)) t with
      | false=>none
      | true=>match W.stepT (denote treeTable) p w s t with
        | some (x,y)=>xj p w n x y
        | none=>none
theorem DM{p:Nl}{w:Nj}:∀{n:Nat} {s r:W.SharedT} {t:Thread},xj p w n s t=some r→W.topRun treeTable p w 11 (some (.ref 6)) n s.abs t=some r.abs
  | 0,_,_,_,h=>by cases h
  | n+1,s,r,t,h=>by
    unfold xj at h
    unfold W.topRun
    split at h
    · next e=>rw [e];cases h;rfl
    · next e=>
      rw [e]
      split at h
      · cases h
      · next k=>
        rw [k]
        split at h
        · next g=>rw [W.stepT_spec g];exact DM h
        · cases h
def DL:List Obj→Nat→W.BT→W.BT
  | [],_,t=>t
  | o::r,n,t=>DL r (n+1) (t.ins n o)
noncomputable def Ik(w:Nj)(os:OsState):W.SharedT:=⟨DL (Pf w.params).objs.toList 0 .nil,11,(Pf w.params).life,#[],W.boot_drawn,W.boot_toks,os⟩
theorem Gh:(fun w os=>(Ik w os).abs)=fun w os=>⟨Pf w.params,#[],W.boot_drawn,W.boot_toks,os⟩:=by kernel_rfl
theorem Ij:(fun w:Nj=>((Pf w.params).isNs NM,(Pf w.params).objs.size,(Pf w.params).nsMap NM "__annotations__"))=fun _=>(true,11,some (.ref 6)):=by kernel_rfl
noncomputable def pX(p:Nl)(w:Nj)(s:Nc):Bool:=W.staticsOk (Og p.main.body) (Pf w.params) s.heap&&W.namesBound p s.heap&&W.gensDone s&&W.laidKept (Pf w.params) s.heap
def mr(p:Nl)(r:Nj→Nj)(N:Nat){α:Type}(f:Nj→Nc→α)(a:Nj→α):Prop:=∀w,(fun os=>(xj p (r w) N (Ik w os) (W.topStub p)).map fun x=>f w x.abs)=fun _=>some (a (r w))
theorem C2{p q:Nl}{L:List Str}{X:Nc→Bool}{α:Type}{Yf:Nc→α}{Ya:Nj→α}{N:Nat}(o:W.opening p=W.plainProg p.main.scope.names)(hN:Nat.ble 600 N=true)(fe:fenceModules? p=some)
    (h:∀w,∃r:Nj→Nj,r w=w∧mr p r N (fun w s=>(pX p w s,On q L (Og p.main.body) X true s,Yf s)) fun w=>(true,W.openGood q L,Ya w)):W.LeftO p q L X Yf Ya N:=fun w=>by
  obtain⟨s,e,k⟩:=QO.1 (W.boot_open (N:=N) o hN (fun s=>congrFun fe s) w)
  obtain⟨r,rw1,h⟩:=h w
  obtain⟨H,g,d,t,os⟩:=s
  cases k
  have z:=congrFun (h w) os
  rw [rw1] at z
  obtain⟨y,ey,hy⟩:=QO.1 z
  have a:=DM ey
  rw [congrFun (congrFun Gh w) os] at a
  have b:=congrFun Ij w
  simp only [Prod.mk.injEq] at b hy
  have c:W.topFrom treeTable p w N ⟨Pf w.params,#[],W.boot_drawn,W.boot_toks,os⟩=some y.abs:=by
    unfold W.topFrom
    dsimp only
    rw [b.1,b.2.1,b.2.2,a]
    have m:=hy.1
    unfold pX at m
    simp only [NF,m]
    rfl
  unfold W.openEnds
  rw [e,NF]
  exact(congrArg (Option.map _) c).trans (congrArg some (Prod.ext hy.2.1 hy.2.2))
theorem Gi{p:Nl}{N:Nat}{α:Type}{f:Nj→Nc→α}{a:Nj→α}{row:String}(h:∀b,mr p (fun w=>w.withFollow row b) N f a):∀w:Nj,∃r:Nj→Nj,r w=w∧mr p r N f a:=fun w=>⟨_,World.withFollow_self w row,h (w.params.followText row)⟩
theorem Ew:mr NH (fun w=>w.withFollow "special-get-raises" false) 5986 (fun v s=>(pX NH v s,(On kq ["QUESTIONS"] (Og NH.main.body) lX true s).1)) (fun v=>(true,expectedOf kq)):=fun w=>by kernel_rfl
theorem Ey:mr NH (fun w=>w.withFollow "special-get-raises" false) 5986 (fun v s=>((On kq ["QUESTIONS"] (Og NH.main.body) lX true s).2.1,(On kq ["QUESTIONS"] (Og NH.main.body) lX true s).2.2.1)) (fun v=>(bltViewBooted,true)):=fun w=>by kernel_rfl
theorem EA:mr NH (fun w=>w.withFollow "special-get-raises" false) 5986 (fun v s=>(On kq ["QUESTIONS"] (Og NH.main.body) lX true s).2.2.2.1) (fun v=>true):=fun w=>by kernel_rfl
theorem EC:mr NH (fun w=>w.withFollow "special-get-raises" false) 5986 (fun v s=>((On kq ["QUESTIONS"] (Og NH.main.body) lX true s).2.2.2.2.1,(On kq ["QUESTIONS"] (Og NH.main.body) lX true s).2.2.2.2.2.1)) (fun v=>(pinGoodD (drecsOf kq),plainGoodE kq (W.looseW kq ["QUESTIONS"]))):=fun w=>by kernel_rfl
theorem EE:mr NH (fun w=>w.withFollow "special-get-raises" false) 5986 (fun v s=>((On kq ["QUESTIONS"] (Og NH.main.body) lX true s).2.2.2.2.2.2,W.Hook.obs kH s)) (fun v=>((plainGoodD kq ["QUESTIONS"],W.wideGood kq,W.clsGoodW kq ["QUESTIONS"]),W.Hook.val kH v)):=fun w=>by kernel_rfl
theorem Ex:mr NH (fun w=>w.withFollow "special-get-raises" true) 5986 (fun v s=>(pX NH v s,(On kq ["QUESTIONS"] (Og NH.main.body) lX true s).1)) (fun v=>(true,expectedOf kq)):=fun w=>by kernel_rfl
theorem Ez:mr NH (fun w=>w.withFollow "special-get-raises" true) 5986 (fun v s=>((On kq ["QUESTIONS"] (Og NH.main.body) lX true s).2.1,(On kq ["QUESTIONS"] (Og NH.main.body) lX true s).2.2.1)) (fun v=>(bltViewBooted,true)):=fun w=>by kernel_rfl
theorem EB:mr NH (fun w=>w.withFollow "special-get-raises" true) 5986 (fun v s=>(On kq ["QUESTIONS"] (Og NH.main.body) lX true s).2.2.2.1) (fun v=>true):=fun w=>by kernel_rfl
theorem ED:mr NH (fun w=>w.withFollow "special-get-raises" true) 5986 (fun v s=>((On kq ["QUESTIONS"] (Og NH.main.body) lX true s).2.2.2.2.1,(On kq ["QUESTIONS"] (Og NH.main.body) lX true s).2.2.2.2.2.1)) (fun v=>(pinGoodD (drecsOf kq),plainGoodE kq (W.looseW kq ["QUESTIONS"]))):=fun w=>by kernel_rfl
theorem EF:mr NH (fun w=>w.withFollow "special-get-raises" true) 5986 (fun v s=>((On kq ["QUESTIONS"] (Og NH.main.body) lX true s).2.2.2.2.2.2,W.Hook.obs kH s)) (fun v=>((plainGoodD kq ["QUESTIONS"],W.wideGood kq,W.clsGoodW kq ["QUESTIONS"]),W.Hook.val kH v)):=fun w=>by kernel_rfl
noncomputable def JF(v:Nj)(s:Nc):=(pX NH v s,(On kq ["QUESTIONS"] (Og NH.main.body) lX true s),W.Hook.obs kH s)
noncomputable def JE(v:Nj):=(true,W.openGood kq ["QUESTIONS"],W.Hook.val kH v)
theorem Ii{τ β0 β1 β2 β3 β4 β5 β6 β7 β8:Type}{o:Option τ}{a0:τ→β0}{a1:τ→β1}{a2:τ→β2}{a3:τ→β3}{a4:τ→β4}{a5:τ→β5}{a6:τ→β6}{a7:τ→β7}{a8:τ→β8}{c0:β0}{c1:β1}{c2:β2}{c3:β3}{c4:β4}{c5:β5}{c6:β6}{c7:β7}{c8:β8}
    (h:o.map (fun x=>(a0 x,a1 x))=some (c0,c1))(k:o.map (fun x=>(a2 x,a3 x))=some (c2,c3))(n:o.map a4=some c4)(l:o.map (fun x=>(a5 x,a6 x))=some (c5,c6))(m:o.map (fun x=>(a7 x,a8 x))=some (c7,c8)):
    o.map (fun x=>(a0 x,(a1 x,a2 x,a3 x,a4 x,a5 x,a6 x,a7 x),a8 x))=some (c0,(c1,c2,c3,c4,c5,c6,c7),c8):=by
  cases o with
  | none=>cases h
  | some x=>
    simp only [Ou,Pv,Prod.mk.injEq] at h k l m n ⊢
    exact⟨h.1,⟨h.2,k.1,k.2,n,l.1,l.2,m.1⟩,m.2⟩
theorem left:W.LeftO NH kq ["QUESTIONS"] lX (W.Hook.obs kH) (W.Hook.val kH) 5986:=C2 (by kernel_rfl) (by kernel_rfl) (by kernel_rfl) (Gi (row:="special-get-raises") (f:=JF) (a:=JE) fun b=>match b with | false=>fun w=>funext fun os=>Ii (congrFun (Ew w) os) (congrFun (Ey w) os) (congrFun (EA w) os) (congrFun (EC w) os) (congrFun (EE w) os) | true=>fun w=>funext fun os=>Ii (congrFun (Ex w) os) (congrFun (Ez w) os) (congrFun (EB w) os) (congrFun (ED w) os) (congrFun (EF w) os))
end V89
namespace L2
open PySem PySem.Spec PyProof.Rows
theorem M7{α:Type _}{β:Type _}{o:Option α}{f:α→Option β}{b:β}(h:o.bind f=some b):∃a,o=some a∧f a=some b:=Option.bind_eq_some_iff.mp h
theorem M8{α:Type _}{β:Type _}{o:Option α}{f:α→β}{b:β}(h:o.map f=some b):∃a,o=some a∧f a=b:=QO.mp h
theorem M9{α:Type _}{l:List α}{i:Nat}{a:α}(h:l[i]?=some a):∃w:i<l.length,l[i]=a:=List.getElem?_eq_some_iff.mp h
theorem M_{α:Type _}{a:α}{s t:List α}(h:a∈s++t):a∈s∨a∈t:=Ov.mp h
theorem M'{α:Type _}{β:Type _}{b:β}{f:α→β}{l:List α}(h:b∈l.map f):∃a,a∈l∧f a=b:=PZ.mp h
theorem Na{α:Type _}{a b:α}{l:List α}(h:a∈b::l):a=b∨a∈l:=OJ.mp h
theorem Nb{α:Type _}{l:List α}{i:Nat}{a:α}(h:l[i]?=some a):a∈l:=List.mem_of_getElem? h
abbrev jg:=Sum Int Str
def tY:jg→Kz→Bool
  | .inl k,v=>Value.isInt k v
  | .inr x,v=>Value.isStrOf x v
def Ji(w:Nj):jg→Int
  | .inl k=>hashInt k
  | .inr x=>hashStr w x
theorem bN:∀{k:jg} {v:Kz},tY k v=true→(∃i t,k=Sum.inl i∧v=Value.int i t)∨(∃x t,k=Sum.inr x∧v=Value.str x t)
  | .inl i,v,h=>by
    obtain⟨t,e⟩:=Value.isInt_shape (k:=i) (v:=v) h
    exact .inl ⟨i,t,rfl,e⟩
  | .inr x,v,h=>by
    obtain⟨t,e⟩:=Value.isStrOf_shape (x:=x) (v:=v) h
    exact .inr ⟨x,t,rfl,e⟩
theorem jN(x:Str)(t:Tok):tY (.inr x) (.str x t)=true:=by simp [tY,Value.isStrOf]
theorem Eg(a b:Int):decide ((Sum.inl a:jg)=Sum.inl b)=(a==b):=by
  by_cases e:a=b
  · subst e;simp
  · have h:¬(Sum.inl a:jg)=Sum.inl b:=fun q=>e (Sum.inl.inj q)
    rw [decide_eq_false h]
    exact(beq_eq_false_iff_ne.mpr e).symm
theorem Ej(a b:Str):decide ((Sum.inr a:jg)=Sum.inr b)=decide (a=b):=by
  by_cases e:a=b
  · subst e;simp
  · have h:¬(Sum.inr a:jg)=Sum.inr b:=fun q=>e (Sum.inr.inj q)
    rw [decide_eq_false h,decide_eq_false e]
theorem Eh(a:Int)(b:Str):decide ((Sum.inl a:jg)=Sum.inr b)=false:=decide_eq_false (fun q=>nomatch q)
theorem Ei(a:Str)(b:Int):decide ((Sum.inr a:jg)=Sum.inl b)=false:=decide_eq_false (fun q=>nomatch q)
def eA(prog:Nl)(w:Nj):PySem.KeyKind prog w jg where
  is:=tY
  hash:=Ji w
  inj:=fun v a b ha hb=>by
    rcases bN ha with ⟨i,t,rfl,rfl⟩ | ⟨x,t,rfl,rfl⟩
    · rcases bN hb with ⟨j,u,rfl,e⟩ | ⟨y,u,rfl,e⟩
      · injection e with e1 _;rw [e1]
      · exact nomatch e
    · rcases bN hb with ⟨j,u,rfl,e⟩ | ⟨y,u,rfl,e⟩
      · exact nomatch e
      · injection e with e1 _;rw [e1]
  byValue:=fun k v h=>by
    rcases bN h with ⟨i,t,rfl,rfl⟩ | ⟨x,t,rfl,rfl⟩<;>rfl
  pyHash:=fun hv h=>by
    rcases bN hv with ⟨i,t,rfl,rfl⟩ | ⟨x,t,rfl,rfl⟩
    · exact wpAny_pyHash_int h
    · exact wpAny_pyHash_str h
  eqBool:=fun hu hv h=>by
    rcases bN hu with ⟨i,t,rfl,rfl⟩ | ⟨x,t,rfl,rfl⟩
    · rcases bN hv with ⟨j,u,rfl,rfl⟩ | ⟨y,u,rfl,rfl⟩
      · rw [Eg] at h;exact wpAny_eqBool_int h
      · rw [Eh] at h;exact SeqAt.EqAt.int_str i t y u _ _ _ _ h
    · rcases bN hv with ⟨j,u,rfl,rfl⟩ | ⟨y,u,rfl,rfl⟩
      · rw [Ei] at h;exact SeqAt.EqAt.str_int x t j u _ _ _ _ h
      · rw [Ej] at h;exact wpAny_eqBool_str h
  «strs»:=fun k x t v h=>by
    rcases bN h with ⟨i,u,rfl,e⟩ | ⟨y,u,rfl,e⟩
    · exact nomatch e
    · injection e with e1 _
      subst e1
      cases v<;>rfl
inductive V where
  | non | bl (b:Bool) | int (i:Int) | str (x:Str) | byt (b:Array UInt8) | flt (b:UInt64) | ref (a:xM) | ty (n:String)
  deriving DecidableEq
def bE:V→Kz→Prop
  | .non,u=>u=Value.none
  | .bl b,u=>u=Value.bool b
  | .int i,u=>∃t,u=Value.int i t
  | .str x,u=>∃t,u=Value.str x t
  | .byt b,u=>∃t,u=Value.bytes b t
  | .flt b,u=>∃t,u=Value.float b t
  | .ref a,u=>u=Value.ref a
  | .ty n,u=>u=Value.type n
abbrev aS:List V→List Kz→Prop:=Paired bE
theorem aS.length{xs:List V}{us:List Kz}(r:aS xs us):xs.length=us.length:=Paired.length r
theorem aS.get:∀{xs:List V} {us:List Kz} {i:Nat} {x:V},aS xs us→xs[i]?=some x→∃u,us[i]?=some u∧bE x u
  | _,_,_,_,.nil,e=>by simp at e
  | _,_,0,_,.cons r _,e=>by simp at e;subst e;exact⟨_,rfl,r⟩
  | _,_,i+1,x,.cons _ t,e=>by
    obtain⟨u,h1,h2⟩:=aS.get (i:=i) (x:=x) t (by simpa using e)
    exact⟨u,by simpa using h1,h2⟩
theorem aS.append:∀{xs ys:List V} {us ws:List Kz},aS xs us→aS ys ws→aS (xs++ys) (us++ws)
  | _,_,_,_,.nil,s=>s
  | _,_,_,_,.cons r t,s=>.cons r (aS.append t s)
theorem aS.take:∀{xs:List V} {us:List Kz} (n:Nat),aS xs us→aS (xs.take n) (us.take n)
  | _,_,0,_=>.nil
  | _,_,_+1,.nil=>.nil
  | _,_,n+1,.cons r t=>.cons r (aS.take n t)
theorem aS.drop:∀{xs:List V} {us:List Kz} (n:Nat),aS xs us→aS (xs.drop n) (us.drop n)
  | _,_,0,r=>r
  | _,_,_+1,.nil=>.nil
  | _,_,n+1,.cons _ t=>aS.drop n t
def p5:Option V→Option Kz→Prop
  | some v,some u=>bE v u
  | none,none=>True
  | _,_=>False
def KV{κ:Type}:List (κ × V)→List (κ × Kz)→Prop:=Paired fun(p:κ × V) (q:κ × Kz)=>p.1=q.1∧bE p.2 q.2
def kV:jg→V
  | .inl i=>.int i
  | .inr x=>.str x
inductive HO where
  /-- a list -/
  | lst (xs:List V)
  /-- a tuple (never changes) -/
  | tup (xs:List V)
  /-- a dict whose keys are ints and texts; one whose keys are tuples of ints and texts (the empty one is both) -/
  | dK (kvs:List (jg × V)) | dT (kvs:List (List jg × V))
  /-- a set of ints: its members, its size -/
  | set (S:Int→Bool) (n:Nat)
  /-- an instance of the class at C, its dict at dx, its attributes -/
  | ins (C dx:xM) (fs:List (Str × V))
  /-- the dict of the instance at x -/
  | own (x:xM)
  /-- the dict of an exception -/
  | xd (fs:List (Str × V))
  /-- a bound method, f of x -/
  | met (f x:xM)
  /-- a range object lo, lo + 1, .. below hi -/
  | rng (lo hi:Int)
  /-- a thing that is known to the object (the script; a dict while a loop walks it): read, never written while it is so -/
  | frz (o:Obj) (u:HO)
  /-- a code object's table -/
  | tbl (ps:Array Kz)
  /-- any other thing, by what is true of its one object (a def of one's own: SetO a S n := HO.ext fun h => ..) -/
  | ext (φ:Nk→Prop)
abbrev Hp:=xM→Option HO
def bw(H:Hp)(a:xM)(o:HO):Hp:=fun b=>if b=a then some o else H b
theorem ar{H:Hp}{a:xM}{o:HO}:bw H a o a=some o:=by unfold bw;rw [if_pos rfl]
theorem av{H:Hp}{a b:xM}{o:HO}(h:b≠a):bw H a o b=H b:=by unfold bw;rw [if_neg h]
theorem el{H:Hp}{a b:xM}{o:HO}(h:H a=some o)(h':H b=none):a≠b:=by
  intro e;subst e;rw [h] at h';cases h'
def rh(h:Nk)(a:xM)(items:Array Kz):Prop:=∃o,h.get? a=some o∧o.cls=.type "tuple"∧∃n,o.data=.seq items n∧o.dict=none
theorem rh.tup{h:Nk}{a:xM}{items:Array Kz}(x:rh h a items):IsTup h a items:=let ⟨o,ho,hc,n,hd,_⟩:=x;⟨o,ho,hc,n,hd⟩
theorem rh.new(h:Nk)(items:Array Kz):rh (h.push {cls:=.type "tuple",data:=.seq items}) h.objs.size items:=⟨_,Oo _ rfl,rfl,_,rfl,rfl⟩
section
variable(P:Nl)(w:Nj)
def eZ(H:Hp)(h:Nk)(a:xM):HO→Prop
  | .lst xs=>xs.length≤Ny∧∃(its:List Kz) (n:Nat),aS xs its∧h.get? a=some {cls:=.type "list",data:=.seq its.toArray n}
  | .tup xs=>xs.length≤Ny∧∃its:List Kz,aS xs its∧rh h a its.toArray
  | .dK kvs=>kvs.length≤Ny∧(a==sysModules)=false∧∃vs,KV kvs vs∧h.DictOf (eA P w) a vs
  | .dT kvs=>kvs.length≤Ny∧(a==sysModules)=false∧∃xs:List (List jg × xM × Kz),
      Paired (fun(p:List jg × V) (q:List jg × xM × Kz)=>p.1=q.1∧H q.2.1=some (.tup (p.1.map kV))∧bE p.2 q.2.2) kvs xs∧
      ∃o es ep,h.get? a=some o∧o.ExactDict∧o.data=.dict es ep∧es.toList=xs.map (entryOfKey (tupleKind (eA P w)))∧(xs.map (·.1)).Nodup
  | .set S n=>h.SetOf (intKind P w) a S n
  | .ins C dx fs=>H dx=some (.own a)∧fs.length≤1000∧dx≠a∧h.get? a=some (Pl C dx)∧
      ∃mA,h.Ns1 dx mA∧(∀f,p5 (fs.lookup f) (mA f))∧PySem.Within mA (fs.map (·.1))
  | .own _=>∃o,h.get? a=some o
  | .xd fs=>∃mA,h.Ns1 a mA∧∀f,p5 (fs.lookup f) (mA f)
  | .rng lo hi=>∃t u v,h.get? a=some {cls:=.type "range",data:=.fields #[.int lo t,.int hi u,.int 1 v]}
  | .frz o u=>h.get? a=some o∧eZ H h a u
  | .tbl ps=>h.get? a=some {cls:=.none,data:=.fields ps}
  | .met f x=>h.get? a=some (QP (.ref f) (.ref x))
  | .ext φ=>φ h∧(∃o,h.get? a=some o)∧∀h1 h2:Nk,φ h1→(∀o,h1.get? a=some o→h2.get? a=some o)→φ h2
def mY(H:Hp)(h:Nk):Prop:=∀a o,H a=some o→eZ P w H h a o
end
section
variable{P:Nl}{w:Nj}{H H':Hp}{h h':Nk}{a:xM}{o:HO}
theorem eZ.lt(x:eZ P w H h a o):a < h.objs.size:=by
  cases o with
  | lst xs=>obtain⟨_,_,_,_,e⟩:=x;exact NG e
  | tup xs=>obtain⟨_,_,_,p⟩:=x;exact p.tup.lt
  | dK kvs=>obtain⟨_,_,_,_,o,_,_,e,_⟩:=x;exact NG e
  | dT kvs=>obtain⟨_,_,_,_,o,_,_,e,_⟩:=x;exact NG e
  | set S n=>obtain⟨o,_,_,_,e,_⟩:=x;exact NG e
  | ins C dx fs=>obtain⟨_,_,_,e,_⟩:=x;exact NG e
  | own y=>obtain⟨_,e⟩:=x;exact NG e
  | xd fs=>obtain⟨_,⟨_,_,_,e,_⟩,_⟩:=x;exact NG e
  | rng lo hi=>obtain⟨_,_,_,e⟩:=x;exact NG e
  | frz ob u=>obtain⟨e,_⟩:=x;exact NG e
  | tbl ps=>exact NG (show h.get? a=some _ from x)
  | met f y=>exact NG (show h.get? a=some _ from x)
  | ext φ=>obtain⟨_,⟨_,e⟩,_⟩:=x;exact NG e
theorem Paired.mapP{α β:Type}{F G:α→β→Prop}:∀{l₁:List α} {l₂:List β},Paired F l₁ l₂→(∀a b,F a b→G a b)→Paired G l₁ l₂
  | _,_,.nil,_=>.nil
  | _,_,.cons r t,f=>.cons (f _ _ r) (Paired.mapP t f)
theorem eZ.stay(x:eZ P w H h a o)(k:∀b u,(b=a∨H b=some (.own a))→h.get? b=some u→h'.get? b=some u)
    (ho:∀b,H b=some (.own a)→H' b=some (.own a))(ht:∀b xs,H b=some (.tup xs)→H' b=some (.tup xs)):eZ P w H' h' a o:=by
  induction o with
  | lst xs=>obtain⟨z,its,n,r,e⟩:=x;exact⟨z,its,n,r,k _ _ (.inl rfl) e⟩
  | tup xs=>obtain⟨z,its,r,ob,e,c⟩:=x;exact⟨z,its,r,ob,k _ _ (.inl rfl) e,c⟩
  | dK kvs=>obtain⟨z,y,vs,r,ob,es,ep,e,c⟩:=x;exact⟨z,y,vs,r,ob,es,ep,k _ _ (.inl rfl) e,c⟩
  | dT kvs=>
    obtain⟨z,y,xs,r,ob,es,ep,e,c⟩:=x
    exact⟨z,y,xs,Paired.mapP r fun p q z=>⟨z.1,ht _ _ z.2.1,z.2.2⟩,ob,es,ep,k _ _ (.inl rfl) e,c⟩
  | set S n=>obtain⟨ob,es,ep,t,e,c⟩:=x;exact⟨ob,es,ep,t,k _ _ (.inl rfl) e,c⟩
  | ins C dx fs=>
    obtain⟨d,z,ne,e,mA,⟨od,es,ep,e2,c⟩,r⟩:=x
    exact⟨ho _ d,z,ne,k _ _ (.inl rfl) e,mA,⟨od,es,ep,k _ _ (.inr d) e2,c⟩,r⟩
  | own y=>obtain⟨ob,e⟩:=x;exact⟨ob,k _ _ (.inl rfl) e⟩
  | xd fs=>obtain⟨mA,⟨od,es,ep,e,c⟩,r⟩:=x;exact⟨mA,⟨od,es,ep,k _ _ (.inl rfl) e,c⟩,r⟩
  | rng lo hi=>obtain⟨t,u,v,e⟩:=x;exact⟨t,u,v,k _ _ (.inl rfl) e⟩
  | frz ob u ih=>obtain⟨e,q⟩:=x;exact⟨k _ _ (.inl rfl) e,ih q⟩
  | tbl ps=>
    have e:h.get? a=some {cls:=.none,data:=.fields ps}:=x
    show h'.get? a=some {cls:=.none,data:=.fields ps}
    exact k a _ (.inl rfl) e
  | met f y=>
    have e:h.get? a=some (QP (.ref f) (.ref y)):=x
    show h'.get? a=some (QP (.ref f) (.ref y))
    exact k a _ (.inl rfl) e
  | ext φ=>obtain⟨p,⟨o,e⟩,st⟩:=x;exact⟨st _ _ p fun o q=>k _ _ (.inl rfl) q,⟨o,k _ _ (.inl rfl) e⟩,st⟩
theorem mY.lt(x:mY P w H h)(e:H a=some o):a < h.objs.size:=(x a o e).lt
theorem mY.fresh(x:mY P w H h)(e:h.objs.size≤a):H a=none:=by
  cases q:H a with
  | none=>rfl
  | some u=>exact absurd (Oe (x.lt q) e) (Ph _)
theorem mY.kept(x:mY P w H h)(k:∀b u,h.get? b=some u→h'.get? b=some u):mY P w H h':=fun a o e=>
  (x a o e).stay (fun b u _ q=>k b u q) (fun _ q=>q) fun _ _ q=>q
theorem mY.laid(x:mY P w H h)(k:∀b u,h.get? b=some u→h'.get? b=some u)(hp:h.objs.size≤a)(new:eZ P w (bw H a o) h' a o):mY P w (bw H a o) h':=fun b u e=>by
  have hn:=x.fresh hp
  by_cases hb:b=a
  · subst hb;rw [ar] at e;cases e;exact new
  · rw [av hb] at e
    exact(x b u e).stay (fun c v _ q=>k c v q) (fun c q=>by rw [av (el q hn)];exact q) fun c xs q=>by rw [av (el q hn)];exact q
end
def Rd(H:Hp)(a:xM)(u:HO):Prop:=H a=some u∨∃o,H a=some (.frz o u)
theorem Rd.ok{P:Nl}{w:Nj}{H:Hp}{h:Nk}{a:xM}{u:HO}(r:Rd H a u)(x:mY P w H h):eZ P w H h a u:=by
  rcases r with r | ⟨o,r⟩
  · exact x a u r
  · obtain⟨_,q⟩:=x a _ r
    exact q
def Io:Option HO→Prop
  | some (.lst _)=>True
  | some (.dK _)=>True
  | some (.dT _)=>True
  | some (.set _ _)=>True
  | some (.ins _ _ _)=>True
  | some (.ext _)=>True
  | _=>False
section
variable{P:Nl}{w:Nj}{H:Hp}{h h':Nk}{x e:xM}{o':HO}
theorem mY.write(ok:mY P w H h)(mu:Io (H x))(he:e=x∨H e=some (.own x))(k:∀b u,b≠e→h.get? b=some u→h'.get? b=some u)(heo:∃u,h'.get? e=some u)
    (new:eZ P w (bw H x o') h' x o'):mY P w (bw H x o') h':=fun b u q=>by
  have nown:∀c y,H c=some (.own y)→c≠x:=fun c y r z=>by subst z;rw [r] at mu;exact mu
  have ntup:∀c xs,H c=some (.tup xs)→c≠x:=fun c xs r z=>by subst z;rw [r] at mu;exact mu
  by_cases hb:b=x
  · subst hb;rw [ar] at q;cases q;exact new
  · rw [av hb] at q
    by_cases hbe:b=e
    · have q':H b=some (.own x):=by
        rcases he with z | z
        · exact absurd (hbe.trans z) hb
        · rw [hbe];exact z
      rw [q] at q';cases q'
      obtain⟨v,hv⟩:=heo
      exact⟨v,by rw [hbe];exact hv⟩
    · refine(ok b u q).stay (fun c v hc r=>k c v ?_ r) (fun c r=>by rw [av (nown c b r)];exact r) fun c xs r=>by rw [av (ntup c xs r)];exact r
      rcases hc with rfl | hc
      · exact hbe
      · rintro rfl
        rcases he with z | z
        · exact nown c b hc z
        · rw [hc] at z;cases z;exact hb rfl
end
structure Un (fs ex:List xM) (H H':Hp) (h h':Nk):Prop where
  keep:∀b o,h.get? b=some o→H b=none→b∉fs→b∉ex→h'.get? b=some o
  slot:∀b o,h.get? b=some o→H b=none→b∈fs→b∉ex→∃sl,h'.get? b=some {o with slots:=sl}
  free:∀b o,h.get? b=some o→H b=none→b∉ex→H' b=none
  there:∀b o,h.get? b=some o→b∉ex→∃o',h'.get? b=some o'
  tups:∀b xs,H b=some (.tup xs)→H' b=some (.tup xs)
  frzs:∀b o u,H b=some (.frz o u)→H' b=some (.frz o u)
  tbls:∀b ps,H b=some (.tbl ps)→∃more,H' b=some (.tbl (ps++more))
section
variable{fs fs' ex ex':List xM}{H H1 H2:Hp}{h h1 h2 h':Nk}{a x e:xM}{o:HO}
theorem Un.any(u:Un fs ex H H1 h h1){b:xM}{ob:Obj}(q:h.get? b=some ob)(n:H b=none)(hx:b∉ex):∃sl,h1.get? b=some {ob with slots:=sl}:=by
  by_cases hb:b∈fs
  · exact u.slot b ob q n hb hx
  · exact⟨ob.slots,u.keep b ob q n hb hx⟩
theorem Un.kept(k:∀b u,h.get? b=some u→h'.get? b=some u):Un fs ex H H h h':=
  ⟨fun b ob q _ _ _=>k b ob q,fun b ob q _ _ _=>⟨ob.slots,k b ob q⟩,fun _ _ _ n _=>n,fun b ob q _=>⟨ob,k b ob q⟩,fun _ _ q=>q,fun _ _ _ q=>q,fun _ ps q=>⟨#[],by rw [q];simp⟩⟩
theorem Un.refl:Un fs ex H H h h:=Un.kept fun _ _ q=>q
theorem Un.laid(k:∀b u,h.get? b=some u→h'.get? b=some u)(hp:h.objs.size≤a)(hn:H a=none):Un fs ex H (bw H a o) h h' where
  keep:=fun b u q _ _ _=>k b u q
  slot:=fun b u q _ _ _=>⟨u.slots,k b u q⟩
  free:=fun b u q n _=>by rw [av (Oq (Oe (NG q) hp))];exact n
  there:=fun b u q _=>⟨u,k b u q⟩
  tups:=fun b xs q=>by rw [av (el q hn)];exact q
  frzs:=fun b u xs q=>by rw [av (el q hn)];exact q
  tbls:=fun b ps q=>⟨#[],by rw [av (el q hn),q];simp⟩
theorem Un.write(mu:Io (H x))(he:e=x∨H e=some (.own x))(k:∀b u,b≠e→h.get? b=some u→h'.get? b=some u)(heo:∃u,h'.get? e=some u):Un fs ex H (bw H x o) h h':=by
  have hx:∀b,H b=none→b≠x:=fun b n z=>by subst z;rw [n] at mu;exact mu
  have hb:∀b,H b=none→b≠e:=fun b n z=>by
    subst z
    rcases he with r | r
    · exact hx b n r
    · rw [n] at r;cases r
  have hm:∀b u,H b=some u→¬Io (some u)→b≠x:=fun b u q nm z=>by subst z;rw [q] at mu;exact nm mu
  refine⟨fun b u q n _ _=>k b u (hb b n) q,fun b u q n _ _=>⟨u.slots,k b u (hb b n) q⟩,fun b u q n _=>by rw [av (hx b n)];exact n,fun b u q _=>?_,
    fun b xs q=>by rw [av (hm b _ q fun z=>z)];exact q,fun b u xs q=>by rw [av (hm b _ q fun z=>z)];exact q,fun b ps q=>⟨#[],by rw [av (hm b _ q fun z=>z),q];simp⟩⟩
  by_cases hbe:b=e
  · subst hbe;exact heo
  · exact⟨u,k b u hbe q⟩
end
def ID(h:Nk)(H:Hp):List xM:=(Pm h.objs.size).filter fun a=>(H a).isSome
def rN(h:Nk)(H:Hp):Nk:=PySem.W.hideAll h (ID h H)
theorem xH(h:Nk)(H:Hp):(rN h H).objs.size=h.objs.size:=PySem.W.hideAll_size _ _
theorem yZ{h:Nk}{H:Hp}{b:xM}{o:Obj}(e:h.get? b=some o)(n:H b=none):(rN h H).get? b=some o:=
  PySem.W.hideAll_get _ e fun hm=>by
    have q:(H b).isSome=true:=(Pn.mp hm).2
    rw [n] at q;simp at q
theorem BW{h:Nk}{H:Hp}{b:xM}{o:Obj}(e:(rN h H).get? b=some o):h.get? b=some o∧H b=none:=by
  have e':h.get? b=some o:=PySem.W.of_hideAll (ID h H) e
  refine⟨e',?_⟩
  cases q:H b with
  | none=>rfl
  | some x=>
    have hm:b∈ID h H:=Pn.mpr ⟨Qa.mpr (NG e'),by simp [q]⟩
    have z:(rN h H).get? b=none:=PySem.W.hideAll_none (ID h H) hm
    rw [z] at e;cases e
def rj(g h:Nk)(L:xM):List (xM × Obj):=(Pm h.objs.size).filterMap fun a=>if a=L∨(g.get? a).isSome=true then none else(h.get? a).map fun o=>(a,o)
theorem oW{g h:Nk}{L:xM}{p:xM × Obj}(hp:p∈rj g h L):p.1≠L∧g.get? p.1=none∧h.get? p.1=some p.2:=by
  obtain⟨b,_,e⟩:=QQ.mp hp
  split at e
  · cases e
  · rename_i hn
    cases q:h.get? b with
    | none=>rw [q] at e;simp at e
    | some u=>
      rw [q] at e
      simp only [Ou,Pv] at e
      subst e
      refine⟨fun z=>hn (.inl z),?_,q⟩
      show g.get? b=none
      cases r:g.get? b with
      | none=>rfl
      | some v=>exact(hn (.inr (by simp [r]))).elim
def cn(g h:Nk)(L d:xM):List (xM × Obj):=(rj g h L).filter fun p=>decide (p.1≠d)
theorem zw{g h:Nk}{L:xM}:News g L h (rj g h L):=fun p hp=>let ⟨a,b,c⟩:=oW hp;⟨c,a,b⟩
structure Mod (K:Ng) (mg:Str→Option Kz) (base:Nk):Prop where
  kin:K.In base
  glob:base.Ns NM mg
  blt:∃mb,base.Ns builtinsNs mb∧∀x:Str,x≠"__name__"→mb x=ON x
  nolimit:base.NoLimit
structure Cx where
  prog:Nl
  w:Nj
  K:Ng
  mg:Str→Option Kz
  base:Nk
  A:Nn
  N:List Str
  s₀:Nc
  H₀:Hp
  env:Env
  outer:List Env
  stack:List Env
  ex:List xM
  fn:Str→Bool
  calm:Bool
  pn:List (xM × Obj)
  xe:Kz→Nc→Prop
def yL(l:List Env):List xM:=l.filterMap (·.frame)
abbrev Cx.fs(X:Cx):List xM:=yL X.outer
def Gx(sc:NL)(x:Str):Prop:=sc.names.lookup x=some .local∨sc.names.lookup x=some .cell∨sc.names.lookup x=some .free
def yj(sc:NL)(x:Str):Prop:=sc.names.lookup x=some .local∨sc.names.lookup x=some .cell
def IL(env:Env)(h:Nk)(m:Str→Option Kz)(x:Str)(u:Kz):Prop:=
  (env.kindOf x=some .local∧m x=some u)∨((env.kindOf x=some .cell∨env.kindOf x=some .free)∧∃c,env.cells.lookup x=some c∧h.IsCell c (some u))
structure Cx.Ok (X:Cx):Prop where
  mod:Mod X.K X.mg X.base
  kind:X.env.scope.kind=.function
  glob:X.env.globals=NM
  blt:X.env.builtins=builtinsNs
  above:X.s₀.heap.objs.size≤X.env.locals
  inj:∀x y c,X.env.cells.lookup x=some c→X.env.cells.lookup y=some c→x=y
  has:∀x,(X.env.kindOf x=some .cell∨X.env.kindOf x=some .free)→∃c,X.env.cells.lookup x=some c
  cab:∀x c,X.fn x=true→X.env.cells.lookup x=some c→X.s₀.heap.objs.size≤c
  hd:X.calm=true→X.A.handled=none
  frames:X.A.frames=some X.stack
  stk:X.stack=X.outer∨(X.stack=X.env::X.outer∧X.env.frame=some X.env.locals)
  exf:∀b∈X.ex,b≠X.env.locals∧∀x c,X.env.cells.lookup x=some c→c≠b
  bs:∀b o,X.base.get? b=some o→X.s₀.heap.get? b=some o∧X.H₀ b=none
  bsz:X.base.objs.size≤X.s₀.heap.objs.size
  noex:∀b o,X.base.get? b=some o→b∉X.ex
  exfs:∀b∈X.ex,b∉X.fs
  funs:X.s₀.heap.FunFrames X.base X.outer
  frf:∀b∈X.fs,X.H₀ b=none
structure aH (X:Cx) (pins:List (xM × Obj)) (σ:List (Option V)) (H:Hp) (s:Nc):Prop where
  ok:X.Ok
  os:s.os=X.s₀.os
  bare:AllBare s.gens
  base:Un X.fs X.ex X.H₀ H X.s₀.heap s.heap
  loc:∃m,s.heap.Ns X.env.locals m∧∀(i:Nat) (x:Str) (v:V),X.N[i]?=some x→σ[i]?=some (some v)→Gx X.env.scope x→∃u,bE v u∧IL X.env s.heap m x u
  cell:∀x c,X.env.cells.lookup x=some c→∃v,s.heap.IsCell c v
  free:H X.env.locals=none
  freeC:∀x c,X.env.cells.lookup x=some c→H c=none
  pin:∀p∈X.pn++pins,s.heap.get? p.1=some p.2∧H p.1=none∧p.1≠X.env.locals∧p.1∉X.fs∧∀v,p.2.data≠.cell v
  hok:mY X.prog X.w H s.heap
  len:σ.length=X.N.length
section
variable{X:Cx}{pins:List (xM × Obj)}{σ:List (Option V)}{H H':Hp}{s:Nc}{h':Nk}
theorem Cx.Ok.nofr(ok:X.Ok){b:xM}{o:Obj}(e:X.base.get? b=some o):b∉X.fs:=fun hb=>by
  have:=(ok.funs.mem hb).1
  rw [e] at this;cases this
theorem aH.bs(I:aH X pins σ H s):∀b o,X.base.get? b=some o→s.heap.get? b=some o∧H b=none:=fun b o e=>
  ⟨I.base.keep b o (I.ok.bs b o e).1 (I.ok.bs b o e).2 (I.ok.nofr e) (I.ok.noex b o e),I.base.free b o (I.ok.bs b o e).1 (I.ok.bs b o e).2 (I.ok.noex b o e)⟩
theorem aH.bk(I:aH X pins σ H s):∀b o,X.base.get? b=some o→s.heap.get? b=some o:=fun b o e=>(I.bs b o e).1
theorem aH.mod(I:aH X pins σ H s):Mod X.K X.mg X.base:=I.ok.mod
theorem aH.kIn(I:aH X pins σ H s):X.K.In s.heap:=I.ok.mod.kin.keeps I.bk
theorem aH.fr(I:aH X pins σ H s):∃m,Fr X.base X.env.locals s.heap m:=
  let ⟨m,hn,_⟩:=I.loc
  ⟨m,hn,I.bk,NR I.ok.bsz I.ok.above⟩
theorem aH.lt(I:aH X pins σ H s):X.env.locals < s.heap.objs.size:=let ⟨_,hn,_⟩:=I.loc;hn.lt
theorem aH.sz(I:aH X pins σ H s):X.s₀.heap.objs.size≤s.heap.objs.size:=NR I.ok.above (Pw I.lt)
theorem aH.nofs(I:aH X pins σ H s){a:xM}(h:s.heap.objs.size≤a):a∉X.fs:=fun hb=>by
  obtain⟨_,o,ho,_⟩:=I.ok.funs.mem hb
  exact absurd (Oe (NG ho) (NR I.sz h)) (Ph _)
theorem aH.cne(I:aH X pins σ H s):∀x c,X.env.cells.lookup x=some c→c≠X.env.locals:=fun x c e z=>by
  obtain⟨v,o,ho,hd⟩:=I.cell x c e
  obtain⟨m,⟨o',es,ep,ho',hd',_⟩,_⟩:=I.loc
  rw [z,ho'] at ho;cases ho;rw [hd'] at hd;cases hd
theorem aH.funs(I:aH X pins σ H s):s.heap.FunFrames X.base X.outer:=by
  have all:∀(l:List Env),(∀b∈yL l,b∈X.fs)→X.s₀.heap.FunFrames X.base l→s.heap.FunFrames X.base l:=by
    intro l
    induction l with
    | nil=>intro _ _;trivial
    | cons env r ih=>
      intro hs hl
      obtain⟨hk,⟨L,o,hf,hn,ho,hd⟩,hr⟩:=hl
      have hL:L∈X.fs:=hs L (by unfold yL;rw [QR,hf];exact OZ)
      obtain⟨sl,e⟩:=I.base.slot L o ho (I.ok.frf L hL) hL fun z=>I.ok.exfs L z hL
      exact⟨hk,⟨L,_,hf,hn,e,hd⟩,ih (fun b hb=>hs b (by unfold yL;rw [QR,hf];exact Ow _ hb)) hr⟩
  exact all X.outer (fun _ hb=>hb) I.ok.funs
theorem aH.stack(I:aH X pins σ H s):s.heap.FunFrames X.base X.stack:=by
  rcases I.ok.stk with e | ⟨e,hf⟩
  · rw [e];exact I.funs
  · rw [e]
    obtain⟨m,hn,_⟩:=I.loc
    refine .cons (by rw [I.ok.kind];decide) hf hn ?_ I.funs
    exact Heap.get?_none_of_le (NR I.ok.bsz I.ok.above)
theorem aH.stkSub(I:aH X pins σ H s):∀b∈yL X.stack,b∈X.env.locals::X.fs:=fun b hb=>by
  rcases I.ok.stk with e | ⟨e,hf⟩
  · rw [e] at hb;exact Ow _ hb
  · rw [e] at hb
    unfold yL at hb
    rw [QR,hf] at hb
    exact hb
theorem aH.stkFree(I:aH X pins σ H s):∀b∈yL X.stack,H b=none:=fun b hb=>by
  rcases Na (I.stkSub b hb) with e | hb
  · rw [e];exact I.free
  · obtain⟨_,o,ho,_⟩:=I.ok.funs.mem hb
    exact I.base.free b o ho (I.ok.frf b hb) fun z=>I.ok.exfs b z hb
theorem aH.step{g':Array GenState}{t':Nat}{d':Drawn}{ch:List xM}(I:aH X pins σ H s)
    (hch:∀b∈ch,(b∈X.ex∨X.s₀.heap.objs.size≤b)∧b≠X.env.locals∧(∀x c,X.env.cells.lookup x=some c→c≠b)∧∀p∈X.pn++pins,p.1≠b)
    (keep:∀b o,b≠X.env.locals→b∉X.fs→b∉ch→s.heap.get? b=some o→H b=none→h'.get? b=some o)
    (slot:∀b o,b≠X.env.locals→b∈X.fs→b∉ch→s.heap.get? b=some o→H b=none→∃sl,h'.get? b=some {o with slots:=sl})(free:∀b o,b∉ch→s.heap.get? b=some o→H b=none→H' b=none)
    (there:∀b o,b∉ch→s.heap.get? b=some o→∃o',h'.get? b=some o')
    (tups:∀b xs,H b=some (.tup xs)→H' b=some (.tup xs))(frzs:∀b o u,H b=some (.frz o u)→H' b=some (.frz o u))(tbls:∀b ps,H b=some (.tbl ps)→∃more,H' b=some (.tbl (ps++more)))
    (ns:∀m,s.heap.Ns X.env.locals m→h'.Ns X.env.locals m)(hok:mY X.prog X.w H' h')(hg:AllBare g'):
    aH X pins σ H' {s with heap:=h',gens:=g',drawn:=d',toks:=t'}:=by
  have neL:∀b o,X.s₀.heap.get? b=some o→b≠X.env.locals:=fun b o e=>Oq (Oe (NG e) I.ok.above)
  have neC:∀b o,X.s₀.heap.get? b=some o→b∉X.ex→b∉ch:=fun b o e hx hb=>by
    rcases(hch b hb).1 with z | z
    · exact hx z
    · exact absurd (Oe (NG e) z) (Ph _)
  have cellK:∀x c,X.env.cells.lookup x=some c→∀v,s.heap.IsCell c v→h'.IsCell c v:=fun x c e v ⟨o,ho,hd⟩=>by
    have nch:c∉ch:=fun z=>(hch c z).2.2.1 x c e rfl
    by_cases hc:c∈X.fs
    · obtain⟨sl,q⟩:=slot c o (I.cne x c e) hc nch ho (I.freeC x c e)
      exact⟨_,q,hd⟩
    · exact⟨o,keep c o (I.cne x c e) hc nch ho (I.freeC x c e),hd⟩
  refine⟨I.ok,I.os,hg,⟨fun b o e n hb hx=>?_,fun b o e n hb hx=>?_,fun b o e n hx=>?_,fun b o e hx=>?_,fun b xs e=>tups b xs (I.base.tups b xs e),fun b o xs e=>frzs b o xs (I.base.frzs b o xs e),fun b ps e=>?_⟩,?_,fun x c e=>?_,?_,fun x c e=>?_,fun p hp=>?_,hok,I.len⟩
  · exact keep b o (neL b o e) hb (neC b o e hx) (I.base.keep b o e n hb hx) (I.base.free b o e n hx)
  · obtain⟨sl,e1⟩:=I.base.slot b o e n hb hx
    obtain⟨sl',e2⟩:=slot b _ (neL b o e) hb (neC b o e hx) e1 (I.base.free b o e n hx)
    exact⟨sl',e2⟩
  · obtain⟨o',e1⟩:=I.base.there b o e hx
    exact free b o' (neC b o e hx) e1 (I.base.free b o e n hx)
  · obtain⟨o',e1⟩:=I.base.there b o e hx
    exact there b o' (neC b o e hx) e1
  · obtain⟨m1,e1⟩:=I.base.tbls b ps e
    obtain⟨m2,e2⟩:=tbls b _ e1
    exact⟨m1++m2,by rw [e2,Array.append_assoc]⟩
  · obtain⟨m,hn,hl⟩:=I.loc
    refine⟨m,ns m hn,fun i x v e1 e2 e3=>?_⟩
    obtain⟨u,r,l⟩:=hl i x v e1 e2 e3
    refine⟨u,r,?_⟩
    rcases l with l | ⟨k,c,e,z⟩
    · exact .inl l
    · exact .inr ⟨k,c,e,cellK x c e _ z⟩
  · obtain⟨v,z⟩:=I.cell x c e
    exact⟨v,cellK x c e v z⟩
  · obtain⟨m,⟨o,_,_,ho,_⟩,_⟩:=I.loc
    exact free _ o (fun z=>(hch _ z).2.1 rfl) ho I.free
  · obtain⟨v,o,ho,hd⟩:=I.cell x c e
    exact free c o (fun z=>(hch c z).2.2.1 x c e rfl) ho (I.freeC x c e)
  · obtain⟨e,n,ne,nf,d⟩:=I.pin p hp
    have nch:p.1∉ch:=fun z=>(hch p.1 z).2.2.2 p hp rfl
    exact⟨keep p.1 p.2 ne nf nch e n,free p.1 p.2 nch e n,ne,nf,d⟩
theorem aH.un{t':Nat}(I:aH X pins σ H s)(u:Un X.fs [] H H' s.heap h')(hok:mY X.prog X.w H' h'):aH X pins σ H' {s with heap:=h',toks:=t'}:=by
  obtain⟨m,⟨o,es,ep,ho,r⟩,_⟩:=id I.loc
  obtain⟨sl,hL⟩:=u.any ho I.free (by simp)
  exact I.step (g':=s.gens) (d':=s.drawn) (ch:=[]) (fun _ z=>nomatch z) (fun b o _ hb _ e n=>u.keep b o e n hb (by simp)) (fun b o _ hb _ e n=>u.slot b o e n hb (by simp)) (fun b o _ e n=>u.free b o e n (by simp)) (fun b o _ e=>u.there b o e (by simp)) u.tups u.frzs u.tbls (fun m' hm=>by
    obtain⟨o',es',ep',ho',r'⟩:=hm
    rw [ho] at ho';cases ho'
    exact⟨_,es',ep',hL,r'⟩) hok I.bare
theorem aH.call{g':Array GenState}{t':Nat}{d':Drawn}{ch:List xM}(I:aH X pins σ H s)(u:Un (yL X.stack) ch H H' s.heap h')(hok:mY X.prog X.w H' h')(hg:AllBare g')
    (hch:∀b∈ch,(b∈X.ex∨X.s₀.heap.objs.size≤b)∧b≠X.env.locals∧(∀x c,X.env.cells.lookup x=some c→c≠b)∧∀p∈X.pn++pins,p.1≠b):
    aH X pins σ H' {s with heap:=h',gens:=g',drawn:=d',toks:=t'}:=by
  obtain⟨m,⟨o,es,ep,ho,r⟩,_⟩:=id I.loc
  obtain⟨sl,hL⟩:=u.any ho I.free fun z=>(hch _ z).2.1 rfl
  exact I.step (ch:=ch) hch (fun b o hL hb hc e n=>u.keep b o e n (fun z=>(Na (I.stkSub b z)).elim hL hb) hc) (fun b o _ _ hc e n=>u.any e n hc) (fun b o hc e n=>u.free b o e n hc) (fun b o hc e=>u.there b o e hc) u.tups u.frzs u.tbls (fun m' hm=>by
    obtain⟨o',es',ep',ho',r'⟩:=hm
    rw [ho] at ho';cases ho'
    exact⟨_,es',ep',hL,r'⟩) hok hg
theorem aH.turned{t':Nat}{it:xM}(I:aH X pins σ H s)(k:∀b o,b≠it→s.heap.get? b=some o→h'.get? b=some o)(hn:H it=none)(hL:it≠X.env.locals)
    (h1:it∈X.ex∨X.s₀.heap.objs.size≤it)(h2:∀x c,X.env.cells.lookup x=some c→c≠it)(h3:∀p∈X.pn++pins,p.1≠it):aH X pins σ H {s with heap:=h',toks:=t'}:=by
  have nit:∀b u,H b=some u→b≠it:=fun b u e z=>by rw [z,hn] at e;cases e
  refine I.step (g':=s.gens) (d':=s.drawn) (ch:=[it]) (fun b hb=>?_) (fun b o _ _ hc e _=>k b o (fun z=>hc (by simp [z])) e) (fun b o _ _ hc e _=>⟨o.slots,k b o (fun z=>hc (by simp [z])) e⟩) (fun _ _ _ _ n=>n)
    (fun b o hc e=>⟨o,k b o (fun z=>hc (by simp [z])) e⟩) (fun _ _ e=>e) (fun _ _ _ e=>e) (fun b ps e=>⟨#[],by rw [e];simp⟩) (fun m hm=>?_) (fun b u e=>?_) I.bare
  · have e:b=it:=by simpa using hb
    subst e
    exact⟨h1,hL,h2,h3⟩
  · obtain⟨o,es,ep,ho,r⟩:=hm
    exact⟨o,es,ep,k _ o (NJ hL) ho,r⟩
  · refine(I.hok b u e).stay (fun c v hc q=>k c v ?_ q) (fun _ q=>q) fun _ _ q=>q
    rcases hc with z | z
    · rw [z];exact nit b u e
    · exact nit c _ z
theorem aH.tok(I:aH X pins σ H s)(t:Nat):aH X pins σ H {s with toks:=t}:=I.un (h':=s.heap) (t':=t) Un.refl I.hok
theorem aH.kept{t':Nat}(I:aH X pins σ H s)(k:∀b u,s.heap.get? b=some u→h'.get? b=some u):aH X pins σ H {s with heap:=h',toks:=t'}:=I.un (Un.kept k) (I.hok.kept k)
theorem aH.laid{a:xM}{o:HO}{t':Nat}(I:aH X pins σ H s)(k:∀b u,s.heap.get? b=some u→h'.get? b=some u)(hp:s.heap.objs.size≤a)(new:eZ X.prog X.w (bw H a o) h' a o):
    aH X pins σ (bw H a o) {s with heap:=h',toks:=t'}:=I.un (Un.laid k hp (I.hok.fresh hp)) (I.hok.laid k hp new)
theorem aH.write{x e:xM}{o:HO}{t':Nat}(I:aH X pins σ H s)(mu:Io (H x))(he:e=x∨H e=some (.own x))(k:∀b u,b≠e→s.heap.get? b=some u→h'.get? b=some u)(heo:∃u,h'.get? e=some u)
    (new:eZ X.prog X.w (bw H x o) h' x o):aH X pins σ (bw H x o) {s with heap:=h',toks:=t'}:=I.un (Un.write mu he k heo) (I.hok.write mu he k heo new)
theorem aH.pins_of{pins':List (xM × Obj)}(I:aH X pins σ H s)(h:∀p∈pins',s.heap.get? p.1=some p.2∧H p.1=none∧p.1≠X.env.locals∧p.1∉X.fs∧∀v,p.2.data≠.cell v):aH X pins' σ H s:=
  ⟨I.ok,I.os,I.bare,I.base,I.loc,I.cell,I.free,I.freeC,fun p hp=>(M_ hp).elim (fun z=>I.pin p (List.mem_append_left _ z)) (h p),I.hok,I.len⟩
theorem ug{N:List Str}(hN:N.Nodup){i j:Nat}{x:Str}(a:N[i]?=some x)(b:N[j]?=some x):i=j:=by
  obtain⟨h1,e1⟩:=M9 a
  obtain⟨h2,e2⟩:=M9 b
  exact(List.getElem_inj hN).mp (e1.trans e2.symm)
theorem yc{M:Model}{A:Nn}{E:Kz→Nc→Prop}{i:Nat}{x:Str}{v:V}{u:Kz}{Q:Unit→Nc→Prop}(I:aH X pins σ H s)(hN:X.N.Nodup)(hi:X.N[i]?=some x)(hx:yj X.env.scope x)(r:bE v u)
    (h:∀s',aH X pins (σ.set i (some v)) H s'→(∃a,PQ a s.heap s'.heap∧(a=X.env.locals∨X.env.cells.lookup x=some a))→Q () s')(hf:X.fn x=true∨X.env.scope.names.lookup x=some .local:=by first | exact .inl rfl | exact .inr rfl | assumption):Np M A (storeName X.env x u) Q E s:=by
  obtain⟨m,hn,hl⟩:=id I.loc
  have hcls:(X.env.scope.kind==.class || (X.env.scope.kind==.module&&X.env.locals != X.env.globals))=false:=by rw [I.ok.kind];rfl
  have hiσ:i < σ.length:=by rw [I.len];exact(M9 hi).1
  have cne:=I.cne
  have tracked:∀{a:xM} {h':Nk},(∃o,s.heap.get? a=some o∧H a=none)→PQ a s.heap h'→mY X.prog X.w H h':=fun{a h'} ha hs b ob e=>by
    obtain⟨_,_,hfree⟩:=ha
    refine(I.hok b ob e).stay (fun c w' hc q=>(hs.2 c ?_).trans q) (fun _ q=>q) fun _ _ q=>q
    rintro rfl
    rcases hc with rfl | hc
    · rw [hfree] at e;cases e
    · rw [hfree] at hc;cases hc
  rcases hx with hk | hk
  · refine wpAny_storeName_local hk hn (fun h' hn' hs=>?_) hcls
    obtain⟨oL,_,_,hoL,_⟩:=id hn
    refine h _ ⟨I.ok,I.os,I.bare,⟨fun b o e n hb hx=>?_,fun b o e n hb hx=>?_,I.base.free,fun b o e hx=>?_,I.base.tups,I.base.frzs,I.base.tbls⟩,⟨_,hn',fun j y v' e1 e2 e3=>?_⟩,fun y c e=>?_,I.free,I.freeC,fun p hp=>?_,tracked ⟨oL,hoL,I.free⟩ hs,by simpa using I.len⟩ ⟨_,hs,.inl rfl⟩
    · exact(hs.2 b (Oq (Oe (NG e) I.ok.above))).trans (I.base.keep b o e n hb hx)
    · obtain⟨sl,e1⟩:=I.base.slot b o e n hb hx
      exact⟨sl,(hs.2 b (Oq (Oe (NG e) I.ok.above))).trans e1⟩
    · obtain⟨o',e1⟩:=I.base.there b o e hx
      exact⟨o',(hs.2 b (Oq (Oe (NG e) I.ok.above))).trans e1⟩
    · by_cases hj:j=i
      · subst hj
        rw [hi] at e1;cases e1
        rw [Os hiσ] at e2
        cases e2
        exact⟨u,r,.inl ⟨hk,by simp⟩⟩
      · rw [NC (NJ hj)] at e2
        obtain⟨u',r',q⟩:=hl j y v' e1 e2 e3
        refine⟨u',r',?_⟩
        rcases q with ⟨k,e⟩ | ⟨k,c,e,z⟩
        · refine .inl ⟨k,?_⟩
          have:y≠x:=fun e=>hj (ug hN e1 (e ▸ hi))
          simp [this,e]
        · exact .inr ⟨k,c,e,z.sameBut hs (cne y c e)⟩
    · obtain⟨w',z⟩:=I.cell y c e
      exact⟨w',z.sameBut hs (cne y c e)⟩
    · obtain⟨e,n,ne,nf,d⟩:=I.pin p hp
      exact⟨(hs.2 p.1 ne).trans e,n,ne,nf,d⟩
  · have hfn:X.fn x=true:=by
      rcases hf with z | z
      · exact z
      · rw [z] at hk;cases hk
    obtain⟨c,hc⟩:=I.ok.has x (.inl hk)
    obtain⟨w',z⟩:=I.cell x c hc
    refine wpAny_storeName_cell I.ok.kind hk hc z (fun h' hc' hs=>?_)
    obtain⟨oc,hoc,hocd⟩:=id z
    refine h {s with heap:=h'} ⟨I.ok,I.os,I.bare,⟨fun b o e n hb hx=>?_,fun b o e n hb hx=>?_,I.base.free,fun b o e hx=>?_,I.base.tups,I.base.frzs,I.base.tbls⟩,⟨m,hn.sameBut hs (NJ (cne x c hc)),fun j y v' e1 e2 e3=>?_⟩,fun y c' e=>?_,I.free,I.freeC,fun p hp=>?_,tracked ⟨oc,hoc,I.freeC x c hc⟩ hs,by simpa using I.len⟩ ⟨c,hs,.inr hc⟩
    · exact(hs.2 b (Oq (Oe (NG e) (I.ok.cab x c hfn hc)))).trans (I.base.keep b o e n hb hx)
    · obtain⟨sl,e1⟩:=I.base.slot b o e n hb hx
      exact⟨sl,(hs.2 b (Oq (Oe (NG e) (I.ok.cab x c hfn hc)))).trans e1⟩
    · obtain⟨o',e1⟩:=I.base.there b o e hx
      exact⟨o',(hs.2 b (Oq (Oe (NG e) (I.ok.cab x c hfn hc)))).trans e1⟩
    · by_cases hj:j=i
      · subst hj
        rw [hi] at e1;cases e1
        rw [Os hiσ] at e2
        cases e2
        exact⟨u,r,.inr ⟨.inl hk,c,hc,hc'⟩⟩
      · rw [NC (NJ hj)] at e2
        obtain⟨u',r',q⟩:=hl j y v' e1 e2 e3
        refine⟨u',r',?_⟩
        rcases q with q | ⟨k,c',e,z'⟩
        · exact .inl q
        · refine .inr ⟨k,c',e,z'.sameBut hs ?_⟩
          rintro rfl
          exact hj (ug hN e1 (I.ok.inj _ _ _ e hc ▸ hi))
    · by_cases hcc:c'=c
      · subst hcc;exact⟨_,hc'⟩
      · obtain⟨w2,z2⟩:=I.cell y c' e
        exact⟨w2,z2.sameBut hs hcc⟩
    · obtain⟨e,n,ne,nf,d⟩:=I.pin p hp
      refine⟨(hs.2 p.1 ?_).trans e,n,ne,nf,d⟩
      intro q
      rw [q,hoc] at e
      have q':oc=p.2:=Ox e
      exact d w' (by rw [←q'];exact hocd)
theorem lN{M:Model}{A:Nn}{E:Kz→Nc→Prop}{i:Nat}{x:Str}{v:V}{u:Kz}{Q:Unit→Nc→Prop}(I:aH X pins σ H s)(hN:X.N.Nodup)(hi:X.N[i]?=some x)(hx:yj X.env.scope x)(r:bE v u)
    (h:∀s',aH X pins (σ.set i (some v)) H s'→Q () s')(hf:X.fn x=true∨X.env.scope.names.lookup x=some .local:=by first | exact .inl rfl | exact .inr rfl | assumption):Np M A (storeName X.env x u) Q E s:=
  yc I hN hi hx r (fun s' I' _=>h s' I') hf
theorem aH.call'{s':Nc}{ch:List xM}(I:aH X pins σ H s)(ho:s'.os=s.os)(u:Un (yL X.stack) ch H H' s.heap s'.heap)(hok:mY X.prog X.w H' s'.heap)(hg:AllBare s'.gens)
    (hch:∀b∈ch,(b∈X.ex∨X.s₀.heap.objs.size≤b)∧b≠X.env.locals∧(∀x c,X.env.cells.lookup x=some c→c≠b)∧∀p∈X.pn++pins,p.1≠b):aH X pins σ H' s':=by
  obtain⟨h',g',d',t',o'⟩:=s'
  have e:o'=s.os:=ho
  subst e
  exact I.call (g':=g') (t':=t') (d':=d') u hok hg hch
end
abbrev XK:=Kz→Option xM→Hp→Prop
abbrev St:=List (Option V)
abbrev VK:=V→Hp→Prop
abbrev TE:=St→Hp→VK→Prop
abbrev TT:=St→Hp→(Bool→Hp→Prop)→Prop
abbrev TA:=St→Hp→(List V→Hp→Prop)→Prop
structure p4 where
  nx:St→Hp→Prop
  rt:VK
  bk:St→Hp→Prop:=fun _ _=>False
  ct:St→Hp→Prop:=fun _ _=>False
abbrev TS:=p4→St→Hp→Prop
def EP(X:Cx)(pins:List (xM × Obj))(σ:St)(Q:VK)(u:Kz)(s':Nc):Prop:=∃v H',aH X pins σ H' s'∧bE v u∧Q v H'
def TP(X:Cx)(pins:List (xM × Obj))(σ:St)(Q:Bool→Hp→Prop)(b:Bool)(s':Nc):Prop:=∃H',aH X pins σ H' s'∧Q b H'
def AP(X:Cx)(pins:List (xM × Obj))(σ:St)(Q:List V→Hp→Prop)(us:List Kz)(s':Nc):Prop:=∃vs H',aH X pins σ H' s'∧aS vs us∧Q vs H'
def SP(X:Cx)(pins:List (xM × Obj))(D:p4)(f:Flow)(s':Nc):Prop:=
  match f with
  | .next=>∃σ' H',aH X pins σ' H' s'∧D.nx σ' H'
  | .brk=>∃σ' H',aH X pins σ' H' s'∧D.bk σ' H'
  | .cont=>∃σ' H',aH X pins σ' H' s'∧D.ct σ' H'
  | .ret u=>∃v σ' H',aH X pins σ' H' s'∧bE v u∧D.rt v H'
def PE(X:Cx)(e:Nh)(t:TE):Prop:=
  ∀(pins:List (xM × Obj)) (s:Nc) (σ:St) (H:Hp) (Q:VK),aH X pins σ H s→t σ H Q→Np (Nr X.prog X.w) X.A (Nt e X.env) (EP X pins σ Q) X.xe s
def PT(X:Cx)(e:Nh)(t:TT):Prop:=
  ∀(pins:List (xM × Obj)) (s:Nc) (σ:St) (H:Hp) (Q:Bool→Hp→Prop),aH X pins σ H s→t σ H Q→Np (Nr X.prog X.w) X.A (isTrue e X.env (Nt e X.env)) (TP X pins σ Q) X.xe s
def PW(X:Cx)(e:Nh)(t:TT):Prop:=
  ∀(whole:Sem Kz) (pins:List (xM × Obj)) (s:Nc) (σ:St) (H:Hp) (Q:Bool→Hp→Prop),aH X pins σ H s→t σ H Q→Np (Nr X.prog X.w) X.A (isTrue e X.env whole) (TP X pins σ Q) X.xe s
theorem PW.pt{X:Cx}{e:Nh}{t:TT}(h:PW X e t):PT X e t:=h _
def PA(X:Cx)(es:List Nh)(t:TA):Prop:=
  ∀(pos:Pos) (pins:List (xM × Obj)) (s:Nc) (σ:St) (H:Hp) (Q:List V→Hp→Prop),aH X pins σ H s→t σ H Q→Np (Nr X.prog X.w) X.A (spliced (ND pos (Nq es X.env))) (AP X pins σ Q) X.xe s
def PS(X:Cx)(st:Nm)(t:TS):Prop:=
  ∀(pins:List (xM × Obj)) (s:Nc) (σ:St) (H:Hp) (D:p4),aH X pins σ H s→t D σ H→Np (Nr X.prog X.w) X.A (exec st X.env) (SP X pins D) X.xe s
def jh(X:Cx)(st:List Nm)(t:TS):Prop:=
  ∀(pins:List (xM × Obj)) (s:Nc) (σ:St) (H:Hp) (D:p4),aH X pins σ H s→t D σ H→Np (Nr X.prog X.w) X.A (execs st X.env) (SP X pins D) X.xe s
theorem cA{α:Type}{t:Sem α}{Q Q':α→Nc→Prop}{M:Model}{A:Nn}{E:Kz→Nc→Prop}{s:Nc}(h:Np M A t Q E s)(hQ:∀a s,Q a s→Q' a s):Np M A t Q' E s:=OB h hQ fun _ _ x=>x
section
variable{X:Cx}
def pP(i:Nat):TE:=fun σ H Q=>∃v,σ[i]?=some (some v)∧Q v H
def tC(v:V):TE:=fun _ H Q=>Q v H
theorem aU{i:Nat}{x:Str}{pos:Pos}(hN:X.N[i]?=some x)(hv:Gx X.env.scope x)(hd:(x==("__debug__":Str))=false:=by decide)(hcd:(x==("__classdict__":Str))=false:=by decide):PE X (.Name x pos) (pP i):=by
  intro pins s σ H Q I h
  obtain⟨v,e,h⟩:=h
  obtain⟨m,hn,hl⟩:=I.loc
  obtain⟨u,r,l⟩:=hl i x v hN e hv
  have fin:EP X pins σ Q u s:=⟨v,H,I,r,h⟩
  rcases l with ⟨hk,hm⟩ | ⟨hk,c,hc,hcell⟩
  · exact wpAny_Name (wpAny_loadName_local I.ok.kind hk hn hm fin) hd
  · rcases hk with hk | hk
    · exact wpAny_Name (wpAny_loadName_cell I.ok.kind hk hc hcell fin) hd
    · exact wpAny_Name (wpAny_loadName_free I.ok.kind hk hc hcell fin hcd) hd
theorem Fe{i j pos}:PE X (.Constant (.int i) j pos) (tC (.int i)):=fun _ _ _ H _ I h=>wpAny_Constant_int ⟨.int i,H,I.tok _,⟨_,rfl⟩,h⟩
theorem Hh{b j pos}:PE X (.Constant (.bool b) j pos) (tC (.bl b)):=fun _ _ _ H _ I h=>Constant_bool ⟨.bl b,H,I,rfl,h⟩
theorem Ff{j pos}:PE X (.Constant .none j pos) (tC .non):=fun _ _ _ H _ I h=>Constant_none ⟨.non,H,I,rfl,h⟩
theorem vH{x j pos}:PE X (.Constant (.str x) j pos) (tC (.str x)):=fun _ _ _ H _ I h=>Calls.Constant_str ⟨.str x,H,I.tok _,⟨_,rfl⟩,h⟩
def Gl(X:Cx)(x:Str):Prop:=X.env.kindOf x=some .globalImplicit
theorem lh{E:Kz→Nc→Prop}{pins:List (xM × Obj)}{s:Nc}{σ:St}{H:Hp}{x:Str}{u:Kz}{pos:Pos}{Q:Kz→Nc→Prop}(I:aH X pins σ H s)(hg:Gl X x)(hm:X.mg x=some u)(h:Q u s)
    (hd:(x==("__debug__":Str))=false:=by decide):Np (Nr X.prog X.w) X.A (Nt (.Name x pos) X.env) Q E s:=
  Calls.Name_function_global I.ok.kind hg (Calls.loadGlobal_global (by rw [I.ok.glob];exact I.mod.glob.keeps I.bk) hm h) hd
theorem r6{E:Kz→Nc→Prop}{pins:List (xM × Obj)}{s:Nc}{σ:St}{H:Hp}{x:Str}{u:Kz}{pos:Pos}{Q:Kz→Nc→Prop}(I:aH X pins σ H s)(hg:Gl X x)(hm:X.mg x=none)(hv:ON x=some u)(h:Q u s)
    (hn:x≠"__name__":=by decide)(hd:(x==("__debug__":Str))=false:=by decide):Np (Nr X.prog X.w) X.A (Nt (.Name x pos) X.env) Q E s:=by
  obtain⟨mb,h1,h2⟩:=I.mod.blt
  exact Calls.Name_function_global I.ok.kind hg (Calls.loadGlobal_builtin (by rw [I.ok.glob];exact I.mod.glob.keeps I.bk) hm (by rw [I.ok.blt];exact h1.keeps I.bk) ((h2 x hn).trans hv) h) hd
theorem Cf{x:Str}{v:V}{u:Kz}{pos:Pos}(hg:Gl X x)(hm:X.mg x=some u)(r:bE v u)(hd:(x==("__debug__":Str))=false:=by decide):PE X (.Name x pos) (tC v):=
  fun _ _ _ H _ I h=>lh I hg hm ⟨v,H,I,r,h⟩ hd
variable{a b:Nh}{ta tb:TE}{pos:Pos}
def PC(X:Cx)(op:CmpOp)(a b:Nh)(t:TE):Prop:=
  ∀(pins:List (xM × Obj)) (s:Nc) (σ:St) (H:Hp) (Q:VK),aH X pins σ H s→t σ H Q→
    Np (Nr X.prog X.w) X.A (Nt a X.env) (fun v s₁=>Np (Nr X.prog X.w) X.A (Nt b X.env) (fun u s₂=>Np (Nr X.prog X.w) X.A (Oc op v u) (EP X pins σ Q) X.xe s₂) X.xe s₁) X.xe s
theorem zz(b:Nh){op:CmpOp}(h:op≠.In)(h2:op≠.NotIn):OK op b=false:=by
  have e1:(op==CmpOp.In)=false:=by cases op<;>first | rfl | exact absurd rfl h
  have e2:(op==CmpOp.NotIn)=false:=by cases op<;>first | rfl | exact absurd rfl h2
  cases b<;>simp [OK,e1,e2]
def tB(t:TE):TT:=fun σ H Q=>t σ H fun x H1=>∃c,x=.bl c∧Q c H1
theorem Fm{op:CmpOp}{t:TE}(h:PC X op a b t)(h1:OK op b=false:=by first | exact zz _ (by decide) (by decide) | rfl):PT X (.Compare a [op] [b] pos) (tB t):=by
  intro pins s σ H Q I hw
  refine wpAny_isTrue_Compare1 (cA (h pins s σ H _ I hw) fun v s1 h1=>cA h1 fun u s2 h2=>cA h2 fun c s3 ⟨x,H1,I1,r1,q1⟩=>?_) h1
  obtain⟨d,rfl,q⟩:=q1
  cases r1
  exact Qb ⟨H1,I1,q⟩
theorem zY{e:Nh}{t:TE}(h:PE X e t)(he:∀whole,isTrue e X.env whole=(do let v ←whole;standAt e.pos;holding [v] (truthy v)):=by intro _;rfl):PT X e (tB t):=by
  intro pins s σ H Q I hw
  refine isTrue_plain (cA (h pins s σ H _ I hw) fun v s1 ⟨x,H1,I1,r1,q1⟩=>?_) (he _)
  obtain⟨d,rfl,q⟩:=q1
  cases r1
  exact Qb ⟨H1,I1,q⟩
variable{tA tB':TT}{cn:List Nh}
def HN(t u:TT):TT:=fun σ H Q=>t σ H fun c H1=>if c=true then u σ H1 Q else Q false H1
def Jx(t u:TT):TT:=fun σ H Q=>t σ H fun c H1=>if c=true then Q true H1 else u σ H1 Q
def HW(t:TT):TT:=fun σ H Q=>t σ H fun c H1=>Q (!c) H1
theorem Cu(ha:PT X a tA):PW X (.BoolOp .And [a] pos) tA:=by
  intro wh pins s σ H Q I h
  refine isTrue_and (cA (ha pins s σ H Q I h) fun c s1 e=>?_)
  cases c with
  | true=>exact isTrue_and_nil e
  | false=>exact e
theorem zZ(ha:PT X a tA):PW X (.BoolOp .Or [a] pos) tA:=by
  intro wh pins s σ H Q I h
  refine isTrue_or (cA (ha pins s σ H Q I h) fun c s1 e=>?_)
  cases c with
  | false=>exact isTrue_or_nil e
  | true=>exact e
theorem Fs(ha:PT X a tA)(hb:PW X (.BoolOp .And (b::cn) pos) tB'):PW X (.BoolOp .And (a::b::cn) pos) (HN tA tB'):=by
  intro wh pins s σ H Q I h
  refine isTrue_and (cA (ha pins s σ H _ I h) fun c s1 ⟨H1,I1,q1⟩=>?_)
  cases c with
  | true=>exact hb wh pins s1 σ H1 Q I1 q1
  | false=>exact⟨H1,I1,q1⟩
theorem Dv(ha:PT X a tA)(hb:PW X (.BoolOp .Or (b::cn) pos) tB'):PW X (.BoolOp .Or (a::b::cn) pos) (Jx tA tB'):=by
  intro wh pins s σ H Q I h
  refine isTrue_or (cA (ha pins s σ H _ I h) fun c s1 ⟨H1,I1,q1⟩=>?_)
  cases c with
  | true=>exact⟨H1,I1,q1⟩
  | false=>exact hb wh pins s1 σ H1 Q I1 q1
theorem zX(ha:PT X a tA):PT X (.UnaryOp .Not a pos) (HW tA):=by
  intro pins s σ H Q I h
  exact isTrue_not (ha pins s σ H (fun c H1=>Q (!c) H1) I h)
def HP(ta tb:TE):TE:=fun σ H Q=>ta σ H fun x H1=>∃c,x=.bl c∧if c=true then tb σ H1 Q else Q (.bl false) H1
theorem Fg{op}{t:TE}(h:PE X a t):PE X (.BoolOp op [a] pos) t:=fun pins s σ H Q I hw=>BoolOp_one (h pins s σ H Q I hw)
theorem Fb(ha:PE X a ta)(hb:PE X (.BoolOp .And (b::cn) pos) tb):PE X (.BoolOp .And (a::b::cn) pos) (HP ta tb):=by
  intro pins s σ H Q I h
  refine BoolOp_and (cA (ha pins s σ H _ I h) fun v s1 ⟨x,H1,I1,r1,q1⟩=>?_)
  obtain⟨c,rfl,q1⟩:=q1
  cases r1
  refine Qb ?_
  cases c with
  | true=>exact hb pins s1 σ H1 Q I1 q1
  | false=>exact⟨.bl false,H1,I1,rfl,q1⟩
def Kp(t:TT)(ta tb:TE):TE:=fun σ H Q=>t σ H fun c H1=>if c=true then ta σ H1 Q else tb σ H1 Q
theorem uq{c:Nh}(hc:PT X c tA)(ha:PE X a ta)(hb:PE X b tb):PE X (.IfExp c a b pos) (Kp tA ta tb):=by
  intro pins s σ H Q I h
  refine wpAny_IfExp (cA (hc pins s σ H _ I h) fun d s1 ⟨H1,I1,q1⟩=>?_)
  cases d with
  | true=>exact ha pins s1 σ H1 Q I1 q1
  | false=>exact hb pins s1 σ H1 Q I1 q1
end
def iu(K:Ng)(H:Hp)(a:xM)(xs:List V):Prop:=
  Rd H a (.lst xs)∨
    ∃(o:Obj) (its:Array Kz) (n:Nat),K.lookup a=some o∧o.cls=.type "list"∧o.dict=none∧o.data=.seq its n∧its.size≤Ny∧aS xs its.toList
def dW(K:Ng)(H:Hp)(a:xM)(xs:List V):Prop:=
  Rd H a (.tup xs)∨
    ∃(o:Obj) (its:Array Kz) (n:Nat),K.lookup a=some o∧o.cls=.type "tuple"∧o.dict=none∧o.data=.seq its n∧its.size≤Ny∧aS xs its.toList
def I_:Kz→Option V
  | .none=>some .non
  | .bool b=>some (.bl b)
  | .int i _=>some (.int i)
  | .str x _=>some (.str x)
  | .bytes b _=>some (.byt b)
  | .float b _=>some (.flt b)
  | .ref a=>some (.ref a)
  | .type n=>some (.ty n)
  | _=>none
theorem bE.abs{x:V}{u:Kz}(r:bE x u):I_ u=some x:=by
  cases x with
  | non=>cases r;rfl
  | bl _=>cases r;rfl
  | int _=>obtain⟨t,rfl⟩:=r;rfl
  | str _=>obtain⟨t,rfl⟩:=r;rfl
  | byt _=>obtain⟨t,rfl⟩:=r;rfl
  | flt _=>obtain⟨t,rfl⟩:=r;rfl
  | ref _=>cases r;rfl
  | ty _=>cases r;rfl
theorem bE.inj{x y:V}{u:Kz}(r:bE x u)(q:bE y u):x=y:=Ox (r.abs.symm.trans q.abs)
theorem aS.inj:∀{xs ys:List V} {us:List Kz},aS xs us→aS ys us→xs=ys
  | _,_,_,.nil,.nil=>rfl
  | _,_,_,.cons r t,.cons r' t'=>by rw [r.inj r',aS.inj t t']
section
variable{X:Cx}{pins:List (xM × Obj)}{σ:St}{H:Hp}{s:Nc}{a:xM}{xs ys:List V}
theorem iu.of{K:Ng}(h:H a=some (.lst xs)):iu K H a xs:=.inl (.inl h)
theorem dW.of{K:Ng}(h:H a=some (.tup xs)):dW K H a xs:=.inl (.inl h)
theorem aH.list(I:aH X pins σ H s)(h:iu X.K H a xs):∃its:List Kz,aS xs its∧PlainL s.heap a its.toArray∧xs.length≤Ny:=by
  rcases h with h | ⟨o,its,n,hk,hc,hd,hs,hz,r⟩
  · obtain⟨z,its,n,r,e⟩:=h.ok I.hok
    exact⟨its,r,⟨_,n,e,rfl,rfl,rfl⟩,z⟩
  · refine⟨its.toList,r,⟨o,n,I.kIn a o hk,hc,hd,by simpa using hs⟩,?_⟩
    have e:=r.length
    simp only [QS] at e
    lia
theorem aH.tuple(I:aH X pins σ H s)(h:dW X.K H a xs):∃its:List Kz,aS xs its∧IsTup s.heap a its.toArray∧xs.length≤Ny:=by
  rcases h with h | ⟨o,its,n,hk,hc,_,hs,hz,r⟩
  · obtain⟨z,its,r,p⟩:=h.ok I.hok
    exact⟨its,r,p.tup,z⟩
  · refine⟨its.toList,r,⟨o,I.kIn a o hk,hc,n,by simpa using hs⟩,?_⟩
    have e:=r.length
    simp only [QS] at e
    lia
theorem aH.list_inj(I:aH X pins σ H s)(h:iu X.K H a xs)(h':iu X.K H a ys):xs=ys:=by
  obtain⟨its,r,⟨o,n,e,_,_,d⟩,_⟩:=I.list h
  obtain⟨its',r',⟨o',n',e',_,_,d'⟩,_⟩:=I.list h'
  rw [e] at e';cases e'
  rw [d] at d'
  injection d' with d1 _
  have:its=its':=by simpa using congrArg Array.toList d1
  subst this
  exact r.inj r'
theorem aH.tuple_inj(I:aH X pins σ H s)(h:dW X.K H a xs)(h':dW X.K H a ys):xs=ys:=by
  obtain⟨its,r,⟨o,e,_,n,d⟩,_⟩:=I.tuple h
  obtain⟨its',r',⟨o',e',_,n',d'⟩,_⟩:=I.tuple h'
  rw [e] at e';cases e'
  rw [d] at d'
  injection d' with d1 _
  have:its=its':=by simpa using congrArg Array.toList d1
  subst this
  exact r.inj r'
end
abbrev Cx.wish(X:Cx)(E:Kz→Nc→Prop):Cx:={X with xe:=E}
abbrev Cx.nox(X:Cx):Cx:=X.wish fun _ _=>False
theorem Cx.Ok.wish{X:Cx}(ok:X.Ok)(E:Kz→Nc→Prop):(X.wish E).Ok:=
  ⟨ok.mod,ok.kind,ok.glob,ok.blt,ok.above,ok.inj,ok.has,ok.cab,ok.hd,ok.frames,ok.stk,ok.exf,ok.bs,ok.bsz,ok.noex,ok.exfs,ok.funs,ok.frf⟩
theorem Cx.Ok.unwish{X:Cx}{E:Kz→Nc→Prop}(ok:(X.wish E).Ok):X.Ok:=
  ⟨ok.mod,ok.kind,ok.glob,ok.blt,ok.above,ok.inj,ok.has,ok.cab,ok.hd,ok.frames,ok.stk,ok.exf,ok.bs,ok.bsz,ok.noex,ok.exfs,ok.funs,ok.frf⟩
section
variable{X:Cx}{pins:List (xM × Obj)}{σ:St}{H:Hp}{s:Nc}{E:Kz→Nc→Prop}
theorem aH.wish(I:aH X pins σ H s)(E:Kz→Nc→Prop):aH (X.wish E) pins σ H s:=⟨I.ok.wish E,I.os,I.bare,I.base,I.loc,I.cell,I.free,I.freeC,I.pin,I.hok,I.len⟩
theorem aH.unwish(I:aH (X.wish E) pins σ H s):aH X pins σ H s:=⟨I.ok.unwish,I.os,I.bare,I.base,I.loc,I.cell,I.free,I.freeC,I.pin,I.hok,I.len⟩
theorem SP.unwish{D:p4}{f:Flow}{s':Nc}(h:SP (X.wish E) pins D f s'):SP X pins D f s':=by
  cases f with
  | next=>obtain⟨σ',H',I,q⟩:=h;exact⟨σ',H',I.unwish,q⟩
  | brk=>obtain⟨σ',H',I,q⟩:=h;exact⟨σ',H',I.unwish,q⟩
  | cont=>obtain⟨σ',H',I,q⟩:=h;exact⟨σ',H',I.unwish,q⟩
  | ret u=>obtain⟨v,σ',H',I,r,q⟩:=h;exact⟨v,σ',H',I.unwish,r,q⟩
theorem jh.nox{st:List Nm}{t:TS}(h:jh X.nox st t):jh X st t:=fun pins s σ H D I hw=>
  OB (h pins s σ H D (I.wish _) hw) (fun _ _ q=>q.unwish) fun _ _ z=>OC z
end
section
variable{X:Cx}{st:Nm}{cn:List Nm}{t u:TS}{e:Nh}{te:TE}{pos:Pos}
def HV:TS:=fun D σ H=>D.nx σ H
def JB(t u:TS):TS:=fun D σ H=>t {D with nx:=u D} σ H
theorem wH:jh X [] HV:=fun _ _ σ H _ I h=>Qr ⟨σ,H,I,h⟩
theorem ly(h1:PS X st t)(h2:jh X cn u):jh X (st::cn) (JB t u):=by
  intro pins s σ H D I h
  refine wpAny_execs_cons (cA (h1 pins s σ H {D with nx:=u D} I h) fun f s1 q=>?_)
  cases f with
  | next=>
    obtain⟨σ',H',I',q⟩:=q
    exact h2 pins s1 σ' H' D I' q
  | ret v=>exact q
  | brk=>exact q
  | cont=>exact q
theorem sD(h1:PS X st t):jh X [st] t:=by
  intro pins s σ H D I h
  refine wpAny_execs_cons (cA (h1 pins s σ H D I h) fun f s1 q=>?_)
  cases f with
  | next=>exact Qr q
  | ret v=>exact q
  | brk=>exact q
  | cont=>exact q
theorem aH.quiet{pins:List (xM × Obj)}{σ:St}{H:Hp}{s:Nc}(I:aH X pins σ H s):interactive X.env=false:=by simp [interactive,I.ok.kind]
def HR(te:TE):TS:=fun D σ H=>te σ H fun _ H1=>D.nx σ H1
theorem Cr(he:PE X e te)(hs:Pa e none pos.line X.env=pure false:=by rfl):PS X (.Expr e pos) (HR te):=by
  intro pins s σ H D I h
  exact wpAny_Expr_any (cA (he pins s σ H _ I h) fun v s1 ⟨x,H1,I1,r1,q1⟩=>⟨σ,H1,I1,q1⟩) I.quiet hs
def JA(te:TE):TS:=fun D σ H=>te σ H D.rt
theorem vK(he:PE X e te):PS X (.Return (some e) pos) (JA te):=by
  intro pins s σ H D I h
  exact wpAny_Return_some (cA (he pins s σ H _ I h) fun v s1 ⟨x,H1,I1,r1,q1⟩=>⟨x,σ,H1,I1,r1,q1⟩)
def Jv(c:TT)(t u:TS):TS:=fun D σ H=>c σ H fun b H1=>if b=true then t D σ H1 else u D σ H1
theorem Du{c:Nh}{a b:List Nm}{tc:TT}(hc:PT X c tc)(ha:jh X a t)(hb:jh X b u):PS X (.If c a b pos) (Jv tc t u):=by
  intro pins s σ H D I h
  refine wpAny_If (cA (hc pins s σ H _ I h) fun d s1 ⟨H1,I1,q1⟩=>?_)
  cases d with
  | true=>exact ha pins s1 σ H1 D I1 q1
  | false=>exact hb pins s1 σ H1 D I1 q1
end
abbrev TG:=V→St→Hp→(St→Hp→Prop)→Prop
abbrev A6:=List V→St→Hp→(St→Hp→Prop)→Prop
def PG(X:Cx)(target:Nh)(t:TG):Prop:=
  ∀(pins:List (xM × Obj)) (s:Nc) (σ:St) (H:Hp) (v:V) (u:Kz) (Q:St→Hp→Prop),aH X pins σ H s→bE v u→t v σ H Q→
    Np (Nr X.prog X.w) X.A (assign target X.env u) (fun _ s'=>∃σ' H',aH X pins σ' H' s'∧Q σ' H') X.xe s
def yk(X:Cx)(ts:List Nh)(t:A6):Prop:=
  ∀(pins:List (xM × Obj)) (s:Nc) (σ:St) (H:Hp) (vs:List V) (us:List Kz) (Q:St→Hp→Prop),aH X pins σ H s→aS vs us→t vs σ H Q→
    Np (Nr X.prog X.w) X.A (assignInOrder ((NY ts X.env).map (·.2)) us) (fun _ s'=>∃σ' H',aH X pins σ' H' s'∧Q σ' H') X.xe s
section
variable{X:Cx}{pos:Pos}
def Dj(i:Nat):TG:=fun v σ H Q=>Q (σ.set i (some v)) H
theorem sC{i:Nat}{x:Str}(hN:X.N.Nodup)(hi:X.N[i]?=some x)(hx:yj X.env.scope x)(hf:X.fn x=true∨X.env.scope.names.lookup x=some .local:=by first | exact .inl rfl | exact .inr rfl | assumption):PG X (.Name x pos) (Dj i):=by
  intro pins s σ H v u Q I r h
  exact wpAny_assign_Name (lN I hN hi hx r (fun s' I'=>⟨_,H,I',h⟩) hf)
def Jb:A6:=fun vs σ H Q=>vs=[]∧Q σ H
def GI(t:TG)(u:A6):A6:=fun vs σ H Q=>∃v r,vs=v::r∧t v σ H fun σ' H'=>u r σ' H' Q
theorem wG:yk X [] Jb:=by
  intro pins s σ H vs us Q I r h
  obtain⟨e,h⟩:=h
  subst e
  cases r
  exact assignInOrder_nil ⟨σ,H,I,h⟩
theorem o6{e:Nh}{es:List Nh}{t:TG}{u:A6}(h1:PG X e t)(h2:yk X es u)
    (hs:(NY (e::es) X.env).map (·.2)=assign e X.env::(NY es X.env).map (·.2):=by rfl):yk X (e::es) (GI t u):=by
  intro pins s σ H vs us Q I r h
  obtain⟨v,vr,e1,h⟩:=h
  subst e1
  cases r with
  | cons r rr=>
    rw [hs]
    refine assignInOrder_cons (cA (h1 pins s σ H _ _ _ I r h) fun _ s1 ⟨σ1,H1,I1,q1⟩=>?_)
    exact h2 pins s1 σ1 H1 _ _ Q I1 rr q1
def GK(K:Ng)(n:Nat)(t:A6):TG:=fun v σ H Q=>∃a xs,v=.ref a∧dW K H a xs∧xs.length=n∧t xs σ H Q
theorem Fh{es:List Nh}{k:Nat}{t:A6}{n:Nat}(hc:X.calm=true)(h:yk X es t)
    (hn:(NY es X.env).length=n:=by rfl)(hst:(NY es X.env).findIdx? (·.1)=none:=by rfl):PG X (.Tuple es k pos) (GK X.K n t):=by
  intro pins s σ H v u Q I r hw
  obtain⟨a,xs,e1,hq,hl,hw⟩:=hw
  subst e1
  cases r
  obtain⟨its,rv,ht,hz⟩:=I.tuple hq
  refine assign_Tuple_tuple (I.ok.hd hc) ht (by simp [hn,←hl,rv.length]) hst fun h' hx=>?_
  have I1:aH X pins σ H {s with heap:=h'}:=I.kept (t':=s.toks) fun b o e=>hx b o (Oq (NG e)) e
  exact h pins _ σ H xs _ Q I1 (by simpa using rv) hw
def HQ(te:TE)(g:TG):TS:=fun D σ H=>te σ H fun x H1=>g x σ H1 D.nx
theorem zU{tg e:Nh}{te:TE}{g:TG}(he:PE X e te)(hg:PG X tg g)(hs:Qc [tg] e pos.line X.env=pure false:=by rfl)(hw:Qd [tg] e X.env=pure none:=by rfl)
    (h1:(NY [tg] X.env).map (·.2)=[assign tg X.env]:=by rfl):PS X (.Assign [tg] e pos) (HQ te g):=by
  intro pins s σ H D I h
  refine wpAny_Assign_stores (cA (he pins s σ H _ I h) fun v s1 ⟨x,H1,I1,r1,q1⟩=>?_) hs hw
  rw [h1]
  exact cA (hg pins s1 σ H1 x v _ I1 r1 q1) fun _ s2 q=>q
theorem o_{i:Nat}{x:Str}{e:Nh}{te:TE}{pos':Pos}(hN:X.N.Nodup)(hi:X.N[i]?=some x)(hx:yj X.env.scope x)(he:PE X e te)(hs:Pa e (some (.Name x pos')) pos.line X.env=pure false:=by rfl)(hf:X.fn x=true∨X.env.scope.names.lookup x=some .local:=by first | exact .inl rfl | exact .inr rfl | assumption):
    PS X (.Assign [.Name x pos'] e pos) (HQ te (Dj i)):=by
  intro pins s σ H D I h
  refine wpAny_Assign_Name (cA (he pins s σ H _ I h) fun v s1 ⟨y,H1,I1,r1,q1⟩=>?_) hs
  exact lN I1 hN hi hx r1 (fun s2 I2=>⟨_,H1,I2,q1⟩) hf
def Jz(i j:Nat)(ta:TA):TS:=fun D σ H=>ta σ H fun vs H1=>∃v w,vs=[v,w]∧D.nx ((σ.set i (some v)).set j (some w)) H1
theorem Fk{i j:Nat}{x y:Str}{a b:Nh}{ta:TA}{px py pt:Pos}{kt k2 pt2}(hc:X.calm=true)(hN:X.N.Nodup)(hi:X.N[i]?=some x)(hj:X.N[j]?=some y)(hij:i≠j)
    (hx:X.env.scope.names.lookup x=some .local)(hy:X.env.scope.names.lookup y=some .local)(ha:PA X [a,b] ta)
    (hw:Qd [.Tuple [.Name x px,.Name y py] kt pt] (.Tuple [a,b] k2 pt2) X.env=pure (some [x,y]))
    (hs:Qc [.Tuple [.Name x px,.Name y py] kt pt] (.Tuple [a,b] k2 pt2) pos.line X.env=pure false:=by rfl):
    PS X (.Assign [.Tuple [.Name x px,.Name y py] kt pt] (.Tuple [a,b] k2 pt2) pos) (Jz i j ta):=by
  intro pins s σ H D I h
  rw [exec_Assign_arm]
  refine Nu (wpAny_standAt ?_)
  rw [hs]
  refine Nu (Nz ?_)
  rw [if_neg (by decide)]
  refine Nu (Tuple_ (cA (ha _ pins s σ H _ I h) fun us s1 ⟨vs,H1,I1,r1,q1⟩=>?_))
  obtain⟨v,w,e1,q1⟩:=q1
  subst e1
  obtain⟨u1,u2,rfl,rv,rw'⟩:∃u1 u2,us=[u1,u2]∧bE v u1∧bE w u2:=by
    cases r1 with
    | cons p q=>
      cases q with
      | cons p' q'=>
        cases q'
        exact⟨_,_,rfl,p,p'⟩
  refine Px ?_ (by show 2≤Ny;decide)
  have I2:aH X pins σ H1 {s1 with heap:=s1.heap.push {cls:=.type "tuple",data:=.seq [u1,u2].toArray}}:=I1.kept (t':=s1.toks) fun b o e=>NS _ e
  rw [hw]
  refine Nu (Nz ?_)
  show Np (Nr X.prog X.w) X.A (do rule "assign.swapped-stores";let items ←unpackItems (.ref s1.heap.objs.size) 2 none;assignInOrder [fun v=>bindName X.env y v,fun v=>bindName X.env x v] items.reverse;pure Flow.next) _ _ _
  refine Nu (wpAny_rule (Nu (unpackItems_tuple (items:=#[u1,u2]) (I.ok.hd hc) (IsTup.new s1.heap _) fun h' hx'=>?_)))
  have I3:=I2.kept (h':=h') (t':=s1.toks) fun b o e=>hx' b o (Oq (NG e)) e
  show Np _ _ (assignInOrder [fun v=>bindName X.env y v,fun v=>bindName X.env x v] [u2,u1] >>= fun _=>pure Flow.next) _ _ _
  refine Nu (assignInOrder_cons (wpAny_bindName (lN I3 hN hj (.inl hy) rw' (fun s2 I4=>?_) (.inr hy))))
  refine assignInOrder_cons (wpAny_bindName (lN I4 hN hi (.inl hx) rv (fun s3 I5=>assignInOrder_nil (Nz ?_)) (.inr hx)))
  rw [List.set_comm _ _ (NJ hij)] at I5
  exact⟨_,H1,I5,q1⟩
end
section
variable{X:Cx}{pos:Pos}
def F9(c:TT)(tb:TS):TS:=fun D σ H=>∃W:Nat→St→Hp→Prop,(∃m,W m σ H)∧∀m σ H,W m σ H→
  c σ H fun b H1=>if b=true then ∃N:St→Hp→Prop,(∀σ' H',N σ' H'→∃m',m' < m∧W m' σ' H')∧tb {D with nx:=N,ct:=N,bk:=D.nx} σ H1 else D.nx σ H1
theorem zW{c:Nh}{body:List Nm}{tc:TT}{tb:TS}(hp:PassesOwn (Nr X.prog X.w) X.A X.env X.xe)(hc:PT X c tc)(hb:jh X body tb):PS X (.While c body [] pos) (F9 tc tb):=by
  intro pins s σ H D I h
  obtain⟨W,⟨m0,w0⟩,turn⟩:=h
  refine wpAny_While (codeAny_whileLoop (fun n s'=>∃σ' H',aH X pins σ' H' s'∧W n σ' H') ?_ m0 ⟨σ,H,I,w0⟩)
  rintro n s1 ⟨σ1,H1,I1,w1⟩
  refine Py hp (cA (hc pins s1 σ1 H1 _ I1 (turn n σ1 H1 w1)) fun b s2 ⟨H2,I2,q2⟩=>?_)
  cases b with
  | true=>
    obtain⟨N,hN,q2⟩:=q2
    rw [if_pos rfl]
    refine Py hp (cA (hb pins s2 σ1 H2 _ I2 q2) fun f s3 q3=>?_)
    cases f with
    | next=>
      obtain⟨σ3,H3,I3,n3⟩:=q3
      obtain⟨m',hm,w3⟩:=hN σ3 H3 n3
      exact⟨m',hm,σ3,H3,I3,w3⟩
    | cont=>
      obtain⟨σ3,H3,I3,n3⟩:=q3
      obtain⟨m',hm,w3⟩:=hN σ3 H3 n3
      exact⟨m',hm,σ3,H3,I3,w3⟩
    | brk=>exact q3
    | ret v=>exact q3
  | false=>
    rw [if_neg Pz]
    exact Qr ⟨σ1,H2,I2,q2⟩
end
structure It where
  go:Nat→Hp→Prop
  yld:Nat→Hp→V→Hp→Prop
  stop:Nat→Hp→Prop
def nQ(X:Cx)(pins:List (xM × Obj))(H:Hp)(b:xM):Prop:=
  H b=none∧b≠X.env.locals∧b∉X.fs∧(b∈X.ex∨X.s₀.heap.objs.size≤b)∧(∀x c,X.env.cells.lookup x=some c→c≠b)∧∀p∈X.pn++pins,p.1≠b
theorem aH.fpOk{X:Cx}{pins:List (xM × Obj)}{σ:St}{H H':Hp}{s:Nc}{b:xM}(I:aH X pins σ H s)(hb:s.heap.objs.size≤b)(hn:H' b=none):nQ X pins H' b:=by
  refine⟨hn,Nat.ne_of_gt (Oe I.lt hb),I.nofs hb,.inr (NR I.sz hb),fun x c e z=>?_,fun p hp z=>?_⟩
  · obtain⟨v,q⟩:=I.cell x c e
    exact absurd (Oe q.lt (by rw [z];exact hb)) (Ph _)
  · exact absurd (Oe (NG (I.pin p hp).1) (by rw [z];exact hb)) (Ph _)
structure Bi (P:Nl) (w:Nj) (K:Ng) (tg:Nh) (J:It) (fp:List xM) (it:xM) (tn:Nat→Nk→Prop):Prop where
  mem:it∈fp
  obj:∀i h,tn i h→∀b∈fp,∃o,h.get? b=some o∧∀v,o.data≠.cell v
  keep:∀i h h',tn i h→(∀b∈fp,∀o,h.get? b=some o→h'.get? b=some o)→tn i h'
  item:∀(X:Cx),X.prog=P→X.w=w→X.K=K→X.calm=true→∀(i:Nat) (pins:List (xM × Obj)) (s:Nc) (σ:St) (H:Hp) (E:Kz→Nc→Prop),aH X pins σ H s→(∀b∈fp,nQ X pins H b)→tn i s.heap→J.go i H→
    Np (Nr P w) X.A (pyNext (.ref it)) (fun r s1=>∃u,r=some u∧
      Np (Nr P w) X.A (Qs tg (.ref it) u) (fun _ s2=>∃x H',aH X pins σ H' s2∧bE x u∧J.yld i H x H'∧tn (i+1) s2.heap∧∀b∈fp,H' b=none) E s1) E s
  done:∀(X:Cx),X.prog=P→X.w=w→X.K=K→X.calm=true→∀(i:Nat) (pins:List (xM × Obj)) (s:Nc) (σ:St) (H:Hp) (E:Kz→Nc→Prop),aH X pins σ H s→(∀b∈fp,nQ X pins H b)→tn i s.heap→J.stop i H→
    Np (Nr P w) X.A (pyNext (.ref it)) (fun r s1=>r=none∧aH X pins σ H s1) E s
  self:∀(A:Nn) (i:Nat) (s:Nc) (Q:Kz→Nc→Prop) (E:Kz→Nc→Prop),tn i s.heap→Q (.ref it) s→Np (Nr P w) A (pyIter (.ref it)) Q E s
abbrev TI:=St→Hp→(It→Hp→Prop)→Prop
def JJ(X:Cx)(pins:List (xM × Obj))(σ:St)(tg:Nh)(R:It→Hp→Prop)(itv:Kz)(s2:Nc):Prop:=
  ∃(it:xM) (fp:List xM) (tn:Nat→Nk→Prop) (J:It) (H':Hp),itv=.ref it∧aH X pins σ H' s2∧Bi X.prog X.w X.K tg J fp it tn∧tn 0 s2.heap∧(∀b∈fp,nQ X pins H' b)∧R J H'
def PI(X:Cx)(tg iter:Nh)(wi:TI):Prop:=
  ∀(pins:List (xM × Obj)) (s:Nc) (σ:St) (H:Hp) (R:It→Hp→Prop),aH X pins σ H s→wi σ H R→
    Np (Nr X.prog X.w) X.A (Nt iter X.env) (fun v s1=>Np (Nr X.prog X.w) X.A (pyIter v) (JJ X pins σ tg R) X.xe s1) X.xe s
theorem yY{M:Model}{A:Nn}{E:Kz→Nc→Prop}{s:Nc}{tg:Nh}{it:xM}{u:Kz}{o:Obj}{n:String}{vs:Array Kz}{Q:Unit→Nc→Prop}(ho:s.heap.get? it=some o)(hc:o.cls=.type n)(hd:o.data=.fields vs)
    (hn:["enumerate","zip","dict_itemiterator","dict_reverseitemiterator","odict_iterator","itertools.zip_longest","itertools.pairwise"].contains n=false)(hQ:Q () s):Np M A (Qs tg (.ref it) u) Q E s:=by
  unfold Qs
  cases tg<;>first
    | exact Nz hQ
    | (cases u<;>first
        | exact Nz hQ
        | (refine Nu (wpAny_load ho ?_)
           rw [hc,hd]
           show Np M A (if (["enumerate","zip","dict_itemiterator","dict_reverseitemiterator","odict_iterator","itertools.zip_longest","itertools.pairwise"].contains n&&vs[0]?==some (rawInt _))=true then _ else _) Q E s
           rw [if_neg (by intro h;rw [hn,Bool.false_and] at h;cases h)]
           exact Nz hQ))
def II(K:Ng)(a:xM):It:=
  ⟨fun i H=>∃xs x,iu K H a xs∧xs[i]?=some x,fun i H x H'=>H'=H∧∀xs,iu K H a xs→xs[i]?=some x,fun i H=>∃xs,iu K H a xs∧xs.length≤i⟩
def IJ(K:Ng)(a:xM):It:=
  ⟨fun i H=>∃xs x,dW K H a xs∧xs[i]?=some x,fun i H x H'=>H'=H∧∀xs,dW K H a xs→xs[i]?=some x,fun i H=>∃xs,dW K H a xs∧xs.length≤i⟩
def Il(lo:Int)(n:Nat):It:=⟨fun i _=>i < n,fun i H x H'=>H'=H∧x=.int (lo+i),fun i _=>n≤i⟩
theorem yh{P:Nl}{w:Nj}{K:Ng}{tg:Nh}(a it:xM):Bi P w K tg (II K a) [it] it (fun i h=>h.IsListIter it a i) where
  mem:=by simp
  obj:=fun i h st b hb=>by
    have e:b=it:=by simpa using hb
    subst e
    obtain⟨o,e,c,d⟩:=st
    exact⟨o,e,fun v z=>by rw [d] at z;cases z⟩
  keep:=fun i h h' st k=>st.at fun o e=>k it (by simp) o e
  item:=by
    intro X hP hw hK hc i pins s σ H E I hf st hg
    subst hP hw hK
    obtain⟨xs,x,hq,hx⟩:=hg
    obtain⟨its,rv,p,hz⟩:=I.list hq
    obtain⟨u,hu,ru⟩:=rv.get hx
    obtain⟨f0,f1,f2,f3,f4,f5⟩:=hf it (by simp)
    refine wpAny_pyNext_list_item st p.isList (x:=u) (by simpa using hu) fun h' st' sb=>?_
    have I1:aH X pins σ H {s with heap:=h'}:=I.turned (t':=s.toks) (fun b o hb e=>(sb.2 b hb).trans e) f0 f1 f3 f4 f5
    obtain⟨o,e,c,d⟩:=id st'
    exact⟨u,rfl,yY (s:={s with heap:=h'}) e c d (by decide) ⟨x,H,I1,ru,⟨rfl,fun ys hy=>by rw [I.list_inj hy hq];exact hx⟩,st',fun b hb=>(hf b hb).1⟩⟩
  done:=by
    intro X hP hw hK hc i pins s σ H E I hf st hg
    subst hP hw hK
    obtain⟨xs,hq,hx⟩:=hg
    obtain⟨its,rv,p,hz⟩:=I.list hq
    obtain⟨f0,f1,f2,f3,f4,f5⟩:=hf it (by simp)
    have hl:=rv.length
    exact wpAny_pyNext_list_end (I.ok.hd hc) st p.isList (by simp;lia) fun h' eb=>⟨rfl,I.turned (t':=s.toks) (fun b o hb e=>eb b o hb e) f0 f1 f3 f4 f5⟩
  self:=fun _ _ _ _ _ st h=>wpAny_pyIter_listiter st h
theorem vU{P:Nl}{w:Nj}{K:Ng}{tg:Nh}(a it:xM):Bi P w K tg (IJ K a) [it] it (fun i h=>h.IsTupleIter it a i) where
  mem:=by simp
  obj:=fun i h st b hb=>by
    have e:b=it:=by simpa using hb
    subst e
    obtain⟨o,e,c,d⟩:=st
    exact⟨o,e,fun v z=>by rw [d] at z;cases z⟩
  keep:=fun i h h' st k=>st.at fun o e=>k it (by simp) o e
  item:=by
    intro X hP hw hK hc i pins s σ H E I hf st hg
    subst hP hw hK
    obtain⟨xs,x,hq,hx⟩:=hg
    obtain⟨its,rv,p,hz⟩:=I.tuple hq
    obtain⟨u,hu,ru⟩:=rv.get hx
    obtain⟨f0,f1,f2,f3,f4,f5⟩:=hf it (by simp)
    refine wpAny_pyNext_tuple_item st (show s.heap.IsTuple a its.toArray from p) (x:=u) (by simpa using hu) fun h' st' sb=>?_
    have I1:aH X pins σ H {s with heap:=h'}:=I.turned (t':=s.toks) (fun b o hb e=>(sb.2 b hb).trans e) f0 f1 f3 f4 f5
    obtain⟨o,e,c,d⟩:=id st'
    exact⟨u,rfl,yY (s:={s with heap:=h'}) e c d (by decide) ⟨x,H,I1,ru,⟨rfl,fun ys hy=>by rw [I.tuple_inj hy hq];exact hx⟩,st',fun b hb=>(hf b hb).1⟩⟩
  done:=by
    intro X hP hw hK hc i pins s σ H E I hf st hg
    subst hP hw hK
    obtain⟨xs,hq,hx⟩:=hg
    obtain⟨its,rv,p,hz⟩:=I.tuple hq
    obtain⟨f0,f1,f2,f3,f4,f5⟩:=hf it (by simp)
    have hl:=rv.length
    exact wpAny_pyNext_tuple_end (I.ok.hd hc) st (show s.heap.IsTuple a its.toArray from p) (by simp;lia) fun h' eb=>⟨rfl,I.turned (t':=s.toks) (fun b o hb e=>eb b o hb e) f0 f1 f3 f4 f5⟩
  self:=fun _ _ _ _ _ st h=>wpAny_pyIter_tupleiter st h
theorem vT{P:Nl}{w:Nj}{K:Ng}{tg:Nh}(it:xM)(lo:Int)(n:Nat):Bi P w K tg (Il lo n) [it] it (fun i h=>IsRangeIter h it (lo+(i:Nat)*1) ((n:Int) - (i:Nat)) 1) where
  mem:=by simp
  obj:=fun i h st b hb=>by
    have e:b=it:=by simpa using hb
    subst e
    exact⟨_,st,fun v z=>by
      have z':Data.fields _=Data.cell v:=z
      cases z'⟩
  keep:=fun i h h' st k=>k it (by simp) _ st
  item:=by
    intro X hP hw hK hc i pins s σ H E I hf st hg
    subst hP hw hK
    obtain⟨f0,f1,f2,f3,f4,f5⟩:=hf it (by simp)
    have W:=Walks.range (prog:=X.prog) (w:=X.w) (I.ok.hd hc) it lo 1 n
    refine W.item i s _ _ hg st fun v h' tk hv st' kk=>?_
    obtain⟨t,rfl⟩:=hv
    have I1:aH X pins σ H {s with heap:=h',toks:=tk}:=I.turned (fun b o hb e=>kk b o (by simpa using hb) e) f0 f1 f3 f4 f5
    refine⟨_,rfl,yY (s:={s with heap:=h',toks:=tk}) (n:="range_iterator") st' rfl rfl (by decide) ⟨.int (lo+i),H,I1,⟨t,?_⟩,⟨rfl,rfl⟩,st',fun b hb=>(hf b hb).1⟩⟩
    rw [Int.mul_one]
  done:=by
    intro X hP hw hK hc i pins s σ H E I hf st hg
    subst hP hw hK
    obtain⟨f0,f1,f2,f3,f4,f5⟩:=hf it (by simp)
    exact wpAny_pyNext_range_end (I.ok.hd hc) st (by have:n≤i:=hg;lia) fun h' eb=>⟨rfl,I.turned (t':=s.toks) (fun b o hb e=>eb b o hb e) f0 f1 f3 f4 f5⟩
  self:=fun _ _ _ _ _ st h=>wpAny_pyIter_rangeiter st h
section
variable{X:Cx}{tg:Nh}
def Dm(K:Ng)(tl:TE):TI:=fun σ H R=>tl σ H fun x H1=>∃a,x=.ref a∧(∃xs,iu K H1 a xs)∧R (II K a) H1
def GM(K:Ng)(tl:TE):TI:=fun σ H R=>tl σ H fun x H1=>∃a,x=.ref a∧(∃xs,dW K H1 a xs)∧R (IJ K a) H1
theorem Cj{l:Nh}{tl:TE}(hl:PE X l tl):PI X tg l (Dm X.K tl):=by
  intro pins s σ H R I h
  refine cA (hl pins s σ H _ I h) fun v s1 ⟨x,H1,I1,r1,q1⟩=>?_
  obtain⟨a,e,⟨xs,hq⟩,q⟩:=q1
  subst e
  cases r1
  obtain⟨its,rv,p,hz⟩:=I1.list hq
  refine wpAny_pyIter_list p.isList ?_
  refine⟨s1.heap.objs.size,[s1.heap.objs.size],_,_,H1,rfl,I1.kept (t':=s1.toks) fun b o e=>NS _ e,yh a _,⟨_,Oo _ rfl,rfl,rfl⟩,fun b hb=>?_,q⟩
  have e:b=s1.heap.objs.size:=by simpa using hb
  subst e
  exact I1.fpOk (NA _) (I1.hok.fresh (NA _))
theorem Fi{l:Nh}{tl:TE}(hl:PE X l tl):PI X tg l (GM X.K tl):=by
  intro pins s σ H R I h
  refine cA (hl pins s σ H _ I h) fun v s1 ⟨x,H1,I1,r1,q1⟩=>?_
  obtain⟨a,e,⟨xs,hq⟩,q⟩:=q1
  subst e
  cases r1
  obtain⟨its,rv,p,hz⟩:=I1.tuple hq
  refine wpAny_pyIter_tuple (show s1.heap.IsTuple a its.toArray from p) ?_
  refine⟨s1.heap.objs.size,[s1.heap.objs.size],_,_,H1,rfl,I1.kept (t':=s1.toks) fun b o e=>NS _ e,vU a _,⟨_,Oo _ rfl,rfl,rfl⟩,fun b hb=>?_,q⟩
  have e:b=s1.heap.objs.size:=by simpa using hb
  subst e
  exact I1.fpOk (NA _) (I1.hok.fresh (NA _))
theorem Ak{pins:List (xM × Obj)}{σ:St}{H:Hp}{s:Nc}{R:It→Hp→Prop}{E:Kz→Nc→Prop}{lo hi:Int}{t u v:Tok}{tk:Nat}(I:aH X pins σ H s)(h1: -(2 ^ 62)≤lo)(h2:lo < 2 ^ 62)(h3: -(2 ^ 62)≤hi)(h4:hi < 2 ^ 62)
    (q:R (Il lo (hi - lo).toNat) H):Np (Nr X.prog X.w) X.A (pyIter (.ref s.heap.objs.size)) (JJ X pins σ tg R) E {s with heap:=s.heap.push {cls:=.type "range",data:=.fields #[.int lo t,.int hi u,.int 1 v]},toks:=tk}:=by
  refine wpAny_pyIter_range (IsRange.new ..) (small_one h1 h2 h3 h4) ?_
  have I1:aH X pins σ H {s with heap:=s.heap.push {cls:=.type "range",data:=.fields #[.int lo t,.int hi u,.int 1 v]},toks:=tk}:=I.kept fun b o e=>NS _ e
  refine⟨(s.heap.push {cls:=.type "range",data:=.fields #[.int lo t,.int hi u,.int 1 v]}).objs.size,[(s.heap.push {cls:=.type "range",data:=.fields #[.int lo t,.int hi u,.int 1 v]}).objs.size],_,_,H,rfl,
    I1.kept (t':=tk) fun b o e=>NS _ e,vT _ lo (hi - lo).toNat,?_,fun b hb=>?_,q⟩
  · have e1:lo+((0:Nat):Int)*1=lo:=by simp
    have e2:(((hi - lo).toNat:Nat):Int) - ((0:Nat):Int)=Builtin.Range.rangeSize lo hi 1:=by rw [rangeSize_one];split<;>lia
    show IsRangeIter _ _ (lo+((0:Nat):Int)*1) ((((hi - lo).toNat:Nat):Int) - ((0:Nat):Int)) 1
    rw [e1,e2]
    exact Oo _ rfl
  · have e:b=(s.heap.push {cls:=.type "range",data:=.fields #[.int lo t,.int hi u,.int 1 v]}).objs.size:=by simpa using hb
    subst e
    exact I1.fpOk (NA _) (I1.hok.fresh (NA _))
def GL(ta:TA):TI:=fun σ H R=>ta σ H fun vs H1=>∃j:Int,vs=[.int j]∧ -(2 ^ 62)≤j∧j < 2 ^ 62∧R (Il 0 j.toNat) H1
theorem xX{a:Nh}{ta:TA}{p pos:Pos}(hg:Gl X "range")(hm:X.mg "range"=none)(ha:PA X [a] ta)(hs:Nq [a] X.env=[(false,Nt a X.env)]:=by rfl):PI X tg (.Call (.Name "range" p) [a] [] pos) (GL ta):=by
  intro pins s σ H R I h
  refine Call_ (r6 I hg hm boot_range (Rq (cA (ha pos pins s σ H _ I h) fun us s1 ⟨vs,H1,I1,r1,q1⟩=>?_) hs rfl))
  obtain⟨j,e,q1,q2,q⟩:=q1
  subst e
  cases r1 with
  | cons r rr=>
    cases rr
    obtain⟨t,rfl⟩:=r
    exact call_range_1 (Ak I1 (by lia) (by lia) q1 q2 (by simpa using q))
def Ju(wi:TI)(g:TG)(tb:TS):TS:=fun D σ H=>wi σ H fun J H1=>∃W:Nat→Nat→St→Hp→Prop,(∃m,W 0 m σ H1)∧∀i m σ H,W i m σ H→
  (J.stop i H∧D.nx σ H)∨(J.go i H∧∃N:St→Hp→Prop,(∀σ' H',N σ' H'→∃m',m' < m∧W (i+1) m' σ' H')∧∀x H',J.yld i H x H'→g x σ H' fun σ2 H2=>tb {D with nx:=N,ct:=N,bk:=D.nx} σ2 H2)
def o8(fp:List xM)(h:Nk):List (xM × Obj):=fp.filterMap fun b=>(h.get? b).map fun o=>(b,o)
theorem iV{fp:List xM}{h:Nk}{b:xM}{o:Obj}(hb:b∈fp)(e:h.get? b=some o):(b,o)∈o8 fp h:=QQ.mpr ⟨b,hb,by rw [e];rfl⟩
theorem xR{fp:List xM}{h:Nk}{p:xM × Obj}(hp:p∈o8 fp h):p.1∈fp∧h.get? p.1=some p.2:=by
  obtain⟨b,hb,e⟩:=QQ.mp hp
  cases q:h.get? b with
  | none=>rw [q] at e;cases e
  | some o=>
    rw [q] at e
    have e':(b,o)=p:=Ox e
    subst e'
    exact⟨hb,q⟩
theorem aH.pinned{pins:List (xM × Obj)}{σ:St}{H:Hp}{s:Nc}{fp:List xM}(I:aH X pins σ H s)(hf:∀b∈fp,nQ X pins H b)(ho:∀b∈fp,∃o,s.heap.get? b=some o∧∀v,o.data≠.cell v):aH X (pins++o8 fp s.heap) σ H s:=
  I.pins_of fun p hp=>(M_ hp).elim (fun z=>I.pin p (Pb _ z)) fun z=>by
    obtain⟨hb,e⟩:=xR z
    obtain⟨f0,f1,f2,_⟩:=hf p.1 hb
    obtain⟨o,e',d⟩:=ho p.1 hb
    rw [e] at e';cases e'
    exact⟨e,f0,f1,f2,d⟩
theorem aH.unpinned{pins pl:List (xM × Obj)}{σ:St}{H:Hp}{s:Nc}(I:aH X (pins++pl) σ H s):aH X pins σ H s:=I.pins_of fun p hp=>I.pin p (Pb _ (List.mem_append_left _ hp))
theorem zV{iter:Nh}{body:List Nm}{wi:TI}{g:TG}{tb:TS}{pos:Pos}(hp:PassesOwn (Nr X.prog X.w) X.A X.env X.xe)(hc:X.calm=true)(hi:PI X tg iter wi)(hg:PG X tg g)(hb:jh X body tb)
    (hs:∀x,PR iter X.env x=pure x:=by intro _;rfl):PS X (.For tg iter body [] pos) (Ju wi g tb):=by
  intro pins s σ H D I h
  refine wpAny_For (cA (hi pins s σ H _ I h) fun v s1 h1=>cA h1 fun itv s2 h2=>?_) hs
  obtain⟨it,fp,tn,J,H2,e,I2,T,st2,f2,W,⟨m0,w0⟩,turn⟩:=h2
  subst e
  have stat:∀{H':Hp},(∀b∈fp,H' b=none)→∀b∈fp,nQ X pins H' b:=fun hn b hb=>⟨hn b hb,(f2 b hb).2⟩
  refine codeAny_forLoop_any (fun n s'=>∃i σ' H',aH X pins σ' H' s'∧tn i s'.heap∧(∀b∈fp,H' b=none)∧W i n σ' H') ?_ m0 ⟨0,σ,H2,I2,st2,fun b hb=>(f2 b hb).1,w0⟩
  rintro n s3 ⟨i,σ3,H3,I3,st3,fr3,w3⟩
  rcases turn i n σ3 H3 w3 with ⟨stop,qn⟩ | ⟨go,N,hN,step⟩
  · refine Py hp (cA (T.done X rfl rfl rfl hc i pins s3 σ3 H3 X.xe I3 (stat fr3) st3 stop) fun r s4 ⟨hr,I4⟩=>?_)
    subst hr
    exact Qr ⟨σ3,H3,I4,qn⟩
  · refine Py hp (cA (T.item X rfl rfl rfl hc i pins s3 σ3 H3 X.xe I3 (stat fr3) st3 go) fun r s4 ⟨u,hr,h4⟩=>?_)
    subst hr
    refine Py hp (cA h4 fun _ s5 ⟨x,H5,I5,r5,y5,st5,fr5⟩=>?_)
    have I5':=I5.pinned (stat fr5) (T.obj _ _ st5)
    refine Py hp (cA (hg _ s5 σ3 H5 x u _ I5' r5 (step x H5 y5)) fun _ s6 ⟨σ6,H6,I6,q6⟩=>?_)
    refine Py hp (cA (hb _ s6 σ6 H6 _ I6 q6) fun f s7 q7=>?_)
    have again:∀{σ7:St} {H7:Hp},aH X (pins++o8 fp s5.heap) σ7 H7 s7→N σ7 H7→∃m,m < n∧∃i σ' H',aH X pins σ' H' s7∧tn i s7.heap∧(∀b∈fp,H' b=none)∧W i m σ' H':=fun{σ7 H7} I7 n7=>by
      obtain⟨m',hm,w7⟩:=hN σ7 H7 n7
      refine⟨m',hm,i+1,σ7,H7,I7.unpinned,T.keep _ _ _ st5 fun b hb o e=>(I7.pin (b,o) (Pb _ (Pb _ (iV hb e)))).1,fun b hb=>?_,w7⟩
      obtain⟨o,e,d⟩:=T.obj _ _ st5 b hb
      exact(I7.pin (b,o) (Pb _ (Pb _ (iV hb e)))).2.1
    cases f with
    | next=>obtain⟨σ7,H7,I7,n7⟩:=q7;exact again I7 n7
    | cont=>obtain⟨σ7,H7,I7,n7⟩:=q7;exact again I7 n7
    | brk=>obtain⟨σ7,H7,I7,q7⟩:=q7;exact⟨σ7,H7,I7.unpinned,q7⟩
    | ret v=>obtain⟨x7,σ7,H7,I7,r7,q7⟩:=q7;exact⟨x7,σ7,H7,I7.unpinned,r7,q7⟩
end
abbrev R2:=V→V→Hp→VK→Prop
def gD(X:Cx)(f:Kz→Kz→Sem Kz)(r:R2):Prop:=
  ∀(pins:List (xM × Obj)) (s:Nc) (σ:St) (H:Hp) (x y:V) (v u:Kz) (Q:VK),aH X pins σ H s→bE x v→bE y u→r x y H Q→
    Np (Nr X.prog X.w) X.A (f v u) (EP X pins σ Q) X.xe s
def Ir(X:Cx)(f:Kz→Sem Kz)(r:V→Hp→VK→Prop):Prop:=
  ∀(pins:List (xM × Obj)) (s:Nc) (σ:St) (H:Hp) (x:V) (v:Kz) (Q:VK),aH X pins σ H s→bE x v→r x H Q→
    Np (Nr X.prog X.w) X.A (f v) (EP X pins σ Q) X.xe s
def cQ(X:Cx)(f:Kz)(r:List V→Hp→VK→Prop):Prop:=
  ∀(pins:List (xM × Obj)) (s:Nc) (σ:St) (H:Hp) (xs:List V) (us:List Kz) (Q:VK),aH X pins σ H s→aS xs us→r xs H Q→
    Np (Nr X.prog X.w) X.A (call f us) (EP X pins σ Q) X.xe s
def Gs(r:R2)(ta tb:TE):TE:=fun σ H Q=>ta σ H fun x H1=>tb σ H1 fun y H2=>r x y H2 Q
def JU(r:V→Hp→VK→Prop)(ta:TE):TE:=fun σ H Q=>ta σ H fun x H1=>r x H1 Q
def rI(C:Int→Int→Prop)(g:Int→Int→V):R2:=fun x y H Q=>∃i j,x=.int i∧y=.int j∧C i j∧Q (g i j) H
def x8(g:Int→Int→V):R2:=fun x y H Q=>∃i j,x=.int i∧y=.int j∧Q (g i j) H
def rU(g:Int→V):V→Hp→VK→Prop:=fun x H Q=>∃i,x=.int i∧Q (g i) H
section
variable{X:Cx}{a b c:Nh}{ta tb tc:TE}{pos:Pos}
theorem DX(ha:PE X a ta)(hb:PE X b tb){pins:List (xM × Obj)}{s:Nc}{σ:St}{H:Hp}{R:V→V→Hp→Prop}(I:aH X pins σ H s)
    (h:ta σ H fun x H1=>tb σ H1 fun y H2=>R x y H2){Q:Kz→Nc→Prop}{f:Kz→Kz→Sem Kz}
    (hf:∀v u s2 x y H2,aH X pins σ H2 s2→bE x v→bE y u→R x y H2→Np (Nr X.prog X.w) X.A (f v u) Q X.xe s2):
    Np (Nr X.prog X.w) X.A (Nt a X.env) (fun v s₁=>Np (Nr X.prog X.w) X.A (Nt b X.env) (fun u s₂=>Np (Nr X.prog X.w) X.A (f v u) Q X.xe s₂) X.xe s₁) X.xe s:=by
  refine cA (ha pins s σ H _ I h) fun v s1 ⟨x,H1,I1,r1,q1⟩=>?_
  refine cA (hb pins s1 σ H1 _ I1 q1) fun u s2 ⟨y,H2,I2,r2,q2⟩=>?_
  exact hf v u s2 x y H2 I2 r1 r2 q2
theorem Dt{op:Operator}{r:R2}(ho:gD X (NZ op) r)(ha:PE X a ta)(hb:PE X b tb):PE X (.BinOp a op b pos) (Gs r ta tb):=by
  intro pins s σ H Q I h
  exact wpAny_BinOp (DX ha hb I h fun v u s2 x y H2 I2 rx ry q=>ho pins s2 σ H2 x y v u Q I2 rx ry q)
theorem Hi{op:UnaryOp}{r:V→Hp→VK→Prop}(ho:Ir X (unaryOp op) r)(ha:PE X a ta):PE X (.UnaryOp op a pos) (JU r ta):=by
  intro pins s σ H Q I h
  exact UnaryOp_ (cA (ha pins s σ H _ I h) fun v s1 ⟨x,H1,I1,r1,q1⟩=>ho pins s1 σ H1 x v Q I1 r1 q1)
theorem Hb{f:Kz→Kz→Sem Kz}{C:Int→Int→Prop}{g:Int→Int→Int}
    (rule:∀(i j:Int) (t u:Tok) (s:Nc) (Q:Kz→Nc→Prop) (E:Kz→Nc→Prop),C i j→Q (.int (g i j) s.toks) {s with toks:=s.toks+1}→Np (Nr X.prog X.w) X.A (f (.int i t) (.int j u)) Q E s):
    gD X f (rI C fun i j=>.int (g i j)):=by
  intro pins s σ H x y v u Q I rx ry h
  obtain⟨i,j,rfl,rfl,hc,q⟩:=h
  obtain⟨t,rfl⟩:=rx
  obtain⟨t',rfl⟩:=ry
  exact rule i j t t' s _ _ hc ⟨.int (g i j),H,I.tok _,⟨_,rfl⟩,q⟩
theorem Hc{f:Kz→Kz→Sem Kz}{g:Int→Int→Int}
    (rule:∀(i j:Int) (t u:Tok) (s:Nc) (Q:Kz→Nc→Prop) (E:Kz→Nc→Prop),Q (.int (g i j) s.toks) {s with toks:=s.toks+1}→Np (Nr X.prog X.w) X.A (f (.int i t) (.int j u)) Q E s):
    gD X f (x8 fun i j=>.int (g i j)):=by
  intro pins s σ H x y v u Q I rx ry h
  obtain⟨i,j,rfl,rfl,q⟩:=h
  obtain⟨t,rfl⟩:=rx
  obtain⟨t',rfl⟩:=ry
  exact rule i j t t' s _ _ ⟨.int (g i j),H,I.tok _,⟨_,rfl⟩,q⟩
theorem EV{f:Kz→Kz→Sem Kz}{g:Int→Int→Bool}
    (rule:∀(i j:Int) (t u:Tok) (s:Nc) (Q:Kz→Nc→Prop) (E:Kz→Nc→Prop),Q (.bool (g i j)) s→Np (Nr X.prog X.w) X.A (f (.int i t) (.int j u)) Q E s):
    gD X f (x8 fun i j=>.bl (g i j)):=by
  intro pins s σ H x y v u Q I rx ry h
  obtain⟨i,j,rfl,rfl,q⟩:=h
  obtain⟨t,rfl⟩:=rx
  obtain⟨t',rfl⟩:=ry
  exact rule i j t t' s _ _ ⟨.bl (g i j),H,I,rfl,q⟩
def DN(i j:Int):Prop:=0≤j∧j≤1000000∧i.natAbs < 2 ^ 64
def Bf(i j:Int):Prop:=(-(2 ^ 64) < i∧i < 2 ^ 64)∨(-(2 ^ 64) < j∧j < 2 ^ 64)
theorem Bf.ok{i j:Int}(h:Bf i j):IntMulOk i j:=by
  rcases h with ⟨h1,h2⟩ | ⟨h1,h2⟩
  · exact .of_left (intBits_le_64 h1 h2)
  · exact .of_right (intBits_le_64 h1 h2)
theorem EW:gD X (NZ .Add) (x8 fun i j=>.int (i+j)):=Hc fun _ _ _ _ _ _ _ q=>add_int q
theorem E_:gD X (NZ .Sub) (x8 fun i j=>.int (i - j)):=Hc fun _ _ _ _ _ _ _ q=>sub_int q
theorem E6:gD X (NZ .Mult) (rI Bf fun i j=>.int (i*j)):=Hb fun _ _ _ _ _ _ _ hc q=>mul_int q hc.ok
theorem B7:gD X (NZ .Mod) (rI (fun _ j=>j≠0) fun i j=>.int (i.fmod j)):=Hb fun _ _ _ _ _ _ _ hc q=>mod_int' hc q
theorem E8:gD X (NZ .Pow) (rI DN fun i j=>.int (i ^ j.toNat)):=Hb fun _ _ _ _ _ _ _ hc q=>pow_int_small hc.1 hc.2.1 hc.2.2 q
theorem Kr{f:Kz→Sem Kz}{g:Int→Int}
    (rule:∀(i:Int) (t:Tok) (s:Nc) (Q:Kz→Nc→Prop) (E:Kz→Nc→Prop),Q (.int (g i) s.toks) {s with toks:=s.toks+1}→Np (Nr X.prog X.w) X.A (f (.int i t)) Q E s):
    Ir X f (rU fun i=>.int (g i)):=by
  intro pins s σ H x v Q I rx h
  obtain⟨i,rfl,q⟩:=h
  obtain⟨t,rfl⟩:=rx
  exact rule i t s _ _ ⟨.int (g i),H,I.tok _,⟨_,rfl⟩,q⟩
theorem Gb:Ir X (unaryOp .USub) (rU fun i=>.int (-i)):=Kr fun _ _ _ _ _ q=>neg_int q
end
section
variable{X:Cx}{a b c:Nh}{ta tb tc:TE}{pos:Pos}
theorem yK{pins:List (xM × Obj)}{σ:St}{H:Hp}{s:Nc}{Q:VK}{k k':Bool}(I:aH X pins σ H s)(q:Q (.bl k) H)(e:k=k'):EP X pins σ Q (.bool k') s:=by
  subst e
  exact⟨.bl k,H,I,rfl,q⟩
theorem Hf:gD X (Oc .Lt) (x8 fun i j=>.bl (decide (i < j))):=EV fun _ _ _ _ _ _ _ q=>lt_int q
theorem He:gD X (Oc .Gt) (x8 fun i j=>.bl (decide (j < i))):=EV fun _ _ _ _ _ _ _ q=>gt_int q
theorem Hd:gD X (Oc .GtE) (x8 fun i j=>.bl (decide (j≤i))):=EV fun _ _ _ _ _ _ _ q=>ge_int q
theorem E5:gD X (Oc .Is) (fun x y H Q=>y=.non∧Q (.bl (decide (x=.non))) H):=by
  intro pins s σ H x y v u Q I rx ry h
  obtain⟨rfl,q⟩:=h
  cases ry
  refine is_none_gen (yK I q ?_)
  cases x<;>first
    | (cases rx;rfl)
    | (obtain⟨t,rfl⟩:=rx;rfl)
theorem B':gD X (Oc .IsNot) (fun x y H Q=>y=.non∧Q (.bl (!decide (x=.non))) H):=by
  intro pins s σ H x y v u Q I rx ry h
  obtain⟨rfl,q⟩:=h
  cases ry
  refine isnot_none_gen (yK I q ?_)
  cases x<;>first
    | (cases rx;rfl)
    | (obtain⟨t,rfl⟩:=rx;rfl)
theorem gD.or{f:Kz→Kz→Sem Kz}{r r':R2}(h:gD X f r)(h':gD X f r'):gD X f (fun x y H Q=>r x y H Q∨r' x y H Q):=by
  intro pins s σ H x y v u Q I rx ry q
  rcases q with q | q
  · exact h pins s σ H x y v u Q I rx ry q
  · exact h' pins s σ H x y v u Q I rx ry q
theorem aE(b:Nh){op:CmpOp}(h:op≠.In:=by decide)(h2:op≠.NotIn:=by decide):OK op b=false:=by
  have e1:(op==CmpOp.In)=false:=by cases op<;>first | rfl | exact absurd rfl h
  have e2:(op==CmpOp.NotIn)=false:=by cases op<;>first | rfl | exact absurd rfl h2
  cases b<;>simp [OK,e1,e2]
theorem Ce{op:CmpOp}{r:R2}(ho:gD X (Oc op) r)(ha:PE X a ta)(hb:PE X b tb)(hm:OK op b=false):PE X (.Compare a [op] [b] pos) (Gs r ta tb):=by
  intro pins s σ H Q I h
  exact wpAny_Compare1 (DX ha hb I h fun v u s2 x y H2 I2 rx ry q=>ho pins s2 σ H2 x y v u Q I2 rx ry q) hm
def HY(t:TE):TT:=fun σ H Q=>t σ H fun x H'=>∃k,x=.bl k∧Q k H'
theorem wJ{op:CmpOp}{r:R2}(ho:gD X (Oc op) r)(ha:PE X a ta)(hb:PE X b tb)(hm:OK op b=false):PT X (.Compare a [op] [b] pos) (HY (Gs r ta tb)):=by
  intro pins s σ H Q I h
  refine wpAny_isTrue_Compare1 (cA (ha pins s σ H _ I h) fun v s1 ⟨x,H1,I1,r1,q1⟩=>cA (hb pins s1 σ H1 _ I1 q1) fun u s2 ⟨y,H2,I2,r2,q2⟩=>
    cA (ho pins s2 σ H2 x y v u _ I2 r1 r2 q2) fun c s3 ⟨z,H3,I3,r3,k,e,q3⟩=>?_) hm
  subst e
  cases r3
  exact Qb ⟨H3,I3,q3⟩
theorem vt:(Ny:Nat) < 2 ^ 63:=by rw [Oh];decide
theorem rg{x:V}{us:List Kz}(r:aS [x] us):∃u,us=[u]∧bE x u:=by
  cases r with
  | cons r1 r2=>cases r2;exact⟨_,rfl,r1⟩
theorem DK{x y:V}{us:List Kz}(r:aS [x,y] us):∃u w',us=[u,w']∧bE x u∧bE y w':=by
  cases r with
  | cons r1 r2=>
    cases r2 with
    | cons r3 r4=>cases r4;exact⟨_,_,rfl,r1,r3⟩
theorem yA:cQ X (.builtin "abs") (fun xs H Q=>∃i,xs=[.int i]∧Q (.int (if i < 0 then -i else i)) H):=by
  intro pins s σ H xs us Q I r h
  obtain⟨i,rfl,q⟩:=h
  obtain⟨u,rfl,t,rfl⟩:=rg r
  exact call_abs_int fun u tk=>⟨.int (if i < 0 then -i else i),H,I.tok _,⟨_,rfl⟩,q⟩
theorem xq(hc:X.calm=true):cQ X (.builtin "max") (fun xs H Q=>∃i j,xs=[.int i,.int j]∧Q (.int (if j > i then j else i)) H):=by
  intro pins s σ H xs us Q I r h
  obtain⟨i,j,rfl,q⟩:=h
  obtain⟨u,w',rfl,⟨t,rfl⟩,⟨t',rfl⟩⟩:=DK r
  refine max_two_ints (I.ok.hd hc) fun h' tk k=>⟨_,H,I.kept k,?_,q⟩
  by_cases hj:j > i
  · rw [if_pos hj,if_pos hj];exact⟨_,rfl⟩
  · rw [if_neg hj,if_neg hj];exact⟨_,rfl⟩
theorem xr(hc:X.calm=true):cQ X (.builtin "min") (fun xs H Q=>∃i j,xs=[.int i,.int j]∧Q (.int (if j < i then j else i)) H):=by
  intro pins s σ H xs us Q I r h
  obtain⟨i,j,rfl,q⟩:=h
  obtain⟨u,w',rfl,⟨t,rfl⟩,⟨t',rfl⟩⟩:=DK r
  refine min_two_ints (I.ok.hd hc) fun h' tk k=>⟨_,H,I.kept k,?_,q⟩
  by_cases hj:j < i
  · rw [if_pos hj,if_pos hj];exact⟨_,rfl⟩
  · rw [if_neg hj,if_neg hj];exact⟨_,rfl⟩
theorem xo:cQ X (.type "int") (fun xs H Q=>(∃i,xs=[.int i]∧Q (.int i) H)∨∃k,xs=[.bl k]∧Q (.int (if k then 1 else 0)) H):=by
  intro pins s σ H xs us Q I r h
  rcases h with ⟨i,rfl,q⟩ | ⟨k,rfl,q⟩
  · obtain⟨u,rfl,t,rfl⟩:=rg r
    exact call_int_int ⟨.int i,H,I,⟨_,rfl⟩,q⟩
  · obtain⟨u,rfl,r1⟩:=rg r
    cases r1
    exact call_int_bool ⟨.int (if k then 1 else 0),H,I.tok _,⟨_,rfl⟩,q⟩
end
structure uX (h:Nk) (x dx C:xM) (mA:Str→Option Kz):Prop where
  obj:h.get? x=some (Pl C dx)
  ns:h.Ns1 dx mA
  ne:dx≠x
theorem xP{h:Nk}{dx:xM}{mA:Str→Option Kz}(n:h.Ns1 dx mA):∃od,h.get? dx=some od∧∀name,Qt name od=some (mA name):=by
  obtain⟨o,es,ep,ho,hd,hk,_,hm⟩:=n
  refine⟨o,ho,fun name=>?_⟩
  have e:=hm name
  unfold nsFind findBy at e
  rw [←Array.find?_toList] at e
  unfold Qt
  rw [hd]
  dsimp only
  split
  · rename_i y q
    rw [q] at e
    exact congrArg some e
  · rename_i q
    rw [q] at e
    have a:es.toList.any (·.refKey)=false:=by
      rw [List.any_eq_false]
      intro y hy
      obtain⟨z,t,hkey⟩:=hk y (Array.mem_toList_iff.mp hy)
      simp [DictEntry.refKey,hkey]
    have a':¬es.toList.any (·.refKey)=true:=by rw [a];exact Pz
    rw [if_neg a']
    exact congrArg some e
theorem uX.look{h:Nk}{x dx C:xM}{mA:Str→Option Kz}(I:uX h x dx C mA):∃od,PySem.W.InstAt h x (Pl C dx) C (some od)∧∀name,Qt name od=some (mA name):=
  let ⟨od,ho,hl⟩:=xP I.ns
  ⟨od,⟨I.obj,rfl,rfl,ho⟩,hl⟩
section
variable{prog:Nl}{w:Nj}{A:Nn}{E:Kz→Nc→Prop}{s:Nc}{K:Ng}{x dx C f:xM}{mA:Str→Option Kz}{name:Str}{v:Kz}
theorem Bx{expr:Bool}{Q:Kz→Nc→Prop}(X:K.In s.heap)(I:uX s.heap x dx C mA)(hg:Qu K C name=true)(hh:QT K C=true)
    (ha:OD K (.ref C) name=some none)(hv:mA name=some v)(hv':PySem.W.handedIn v=true)(h:Q v {s with toks:=s.toks+1}):
    Np (Nr prog w) A (getAttr (.ref x) name expr) Q E s:=by
  obtain⟨od,J,hl⟩:=I.look
  exact PySem.W.get_value X J (QU hg).1 (PySem.W.findObj_own hh ha rfl (by rw [hl,hv])) hv' h
theorem yX{pl:Sem Bool}{Q:Kz × List Kz→Nc→Prop}(X:K.In s.heap)(I:uX s.heap x dx C mA)(hg:Qu K C name=true)
    (hf:OD K (.ref C) name=some (some (.ref f)))(ht:PySem.W.isFn K (.ref f)=true)(hv:mA name=none)(h:Q (.ref f,[.ref x]) s):
    Np (Nr prog w) A (getMethod (.ref x) name pl) Q E s:=by
  obtain⟨od,J,hl⟩:=I.look
  exact PySem.W.method_fn X J (QU hg).1 (QU hg).2 hf (beq_iff_eq.mp ht) (by show(Qt name od).map (·.isSome)=some false;rw [hl,hv];rfl) h
theorem CJ{ns:List Str}{Q:Unit→Nc→Prop}(X:K.In s.heap)(I:uX s.heap x dx C mA)
    (hs:OD K (.ref C) "__setattr__"=some (some (.builtin "object.__setattr__")))(hp:PySem.W.plainOver K C=true)(ht:PySem.W.takerIn K C name=some none)(hh:QT K C=true)
    (hw:PySem.Within mA ns)(hsz:ns.length≤Ny)
    (h:∀h',uX h' x dx C (fun y=>if y=name then some v else mA y)→PQ dx s.heap h'→Q () {s with heap:=h',toks:=s.toks+2}):
    Np (Nr prog w) A (setAttr (.ref x) name v) Q E s:=by
  obtain⟨od,J,hl⟩:=I.look
  refine PySem.W.set_plain X J hs (PySem.W.osa_open (s:={s with toks:=s.toks+1}) (r:=none) X J hp ht fun b=>?_)
  obtain⟨cd,hc,hd'⟩:=PySem.W.any_some hh
  have hx:s.heap.get? x=some ⟨.ref C,some dx,.plain,#[]⟩:=I.obj
  refine Nu (Nz (Nu (Nu (wpAny_loadPart hx (Nu (PySem.W.Looks.here (s:={s with toks:=s.toks+1}) (PySem.W.looks_clsIn X hc) ?_))))))
  rw [hd']
  refine Nz (a:=some dx) (Nu (Nz (Nu ?_)))
  refine wpAny_nsSet1 (s:={s with toks:=s.toks+1}) I.ns fun h' hn2 hs2=>?_
  obtain⟨oD,esD,epD,hoD,hdD,hcD⟩:=hn2.count (PySem.Within.cons name v hw)
  refine Nu (wpAny_lookBehind hoD (by rw [hdD];exact pastItsLine_dict (NR hcD (by rw [OO];lia))) ?_)
  exact Nz (h _ ⟨(hs2.2 _ (NJ I.ne)).trans I.obj,hn2,I.ne⟩ hs2)
theorem zm{R:Result→Nc→Prop}{vs:List Kz}{kw:List (Str × Kz)}(X:K.In s.heap)(hm:PySem.W.makesIn K C=true)
    (hi:OD K (.ref C) "__init__"=some (some (.ref f)))(hf:PySem.W.typeIn K (.ref f)=some (.type "function"))
    (h:codeAny (Nr prog w) (A.under (.builtin "type.__call__" ⟨.ref C::vs,kw⟩)) (.call (.ref f) ⟨.ref (s.heap.objs.size+1)::vs,kw⟩) (PySem.W.InitBack (s.heap.objs.size+1) R)
      {s with heap:=(s.heap.push Pi).push (Pl C s.heap.objs.size)}):
    codeAny (Nr prog w) A (.call (.ref C) ⟨vs,kw⟩) R s:=by
  obtain⟨hh,g,d,t,os⟩:=s
  exact PySem.W.make_core (PySem.W.makes_of X hm) (PySem.W.looks_findIn X hi) (fun self=>PySem.W.bind_fn X self hf) (.inl rfl) h
end
def h8(f:Str)(v:V):List (Str × V)→List (Str × V)
  | []=>[(f,v)]
  | (g,x)::r=>if g=f then(g,v)::r else(g,x)::h8 f v r
theorem mJ(f g:Str)(v:V):∀fs:List (Str × V),(h8 f v fs).lookup g=if g=f then some v else fs.lookup g
  | []=>by
    show Od g [(f,v)]=_
    by_cases h:g=f
    · have hb:(g==f)=true:=beq_iff_eq.mpr h
      simp only [Od,hb,if_pos h]
    · have hb:(g==f)=false:=beq_eq_false_iff_ne.mpr h
      simp only [Od,hb,if_neg h]
  | (k,x)::r=>by
    have ih:=mJ f g v r
    rw [show h8 f v ((k,x)::r)=(if k=f then(k,v)::r else(k,x)::h8 f v r) from rfl]
    by_cases hk:k=f
    · rw [if_pos hk]
      by_cases h:g=k
      · have hb:(g==k)=true:=beq_iff_eq.mpr h
        simp only [Od,hb,if_pos (h.trans hk)]
      · have hb:(g==k)=false:=beq_eq_false_iff_ne.mpr h
        simp only [Od,hb,if_neg (fun e:g=f=>h (e.trans hk.symm))]
    · rw [if_neg hk]
      by_cases h:g=k
      · have hb:(g==k)=true:=beq_iff_eq.mpr h
        simp only [Od,hb,if_neg (fun e:g=f=>hk (h.symm.trans e))]
      · have hb:(g==k)=false:=beq_eq_false_iff_ne.mpr h
        simp only [Od,hb]
        exact ih
theorem l6(f:Str)(v:V):∀fs:List (Str × V),f∈(h8 f v fs).map (·.1)∧∀g,g∈fs.map (·.1)→g∈(h8 f v fs).map (·.1)
  | []=>⟨by simp [h8],fun g h=>by simp at h⟩
  | (k,x)::r=>by
    obtain⟨i1,i2⟩:=l6 f v r
    rw [show h8 f v ((k,x)::r)=(if k=f then(k,v)::r else(k,x)::h8 f v r) from rfl]
    by_cases hk:k=f
    · rw [if_pos hk]
      subst hk
      exact⟨by simp,fun g h=>by simpa using h⟩
    · rw [if_neg hk]
      refine⟨?_,fun g h=>?_⟩
      · rw [NP]
        exact Ow _ i1
      · rw [NP] at h ⊢
        rcases Na h with e | e
        · exact OJ.mpr (.inl e)
        · exact Ow _ (i2 g e)
theorem mI(f:Str)(v:V):∀fs:List (Str × V),(h8 f v fs).length≤fs.length+1
  | []=>by simp [h8]
  | (k,x)::r=>by
    have ih:=mI f v r
    rw [show h8 f v ((k,x)::r)=(if k=f then(k,v)::r else(k,x)::h8 f v r) from rfl]
    by_cases hk:k=f
    · rw [if_pos hk,OO,OO];lia
    · rw [if_neg hk,OO,OO];lia
theorem p5.some_of{v:V}{o:Option Kz}(r:p5 (some v) o):∃u,o=some u∧bE v u:=by
  cases o with
  | none=>exact(show False from r).elim
  | some u=>exact⟨u,rfl,r⟩
theorem p5.none_of{o:Option Kz}(r:p5 none o):o=none:=by
  cases o with
  | none=>rfl
  | some u=>exact(show False from r).elim
theorem xG{v:V}{u:Kz}(r:bE v u):PySem.W.handedIn u=true:=by
  cases v with
  | non=>cases (show u=Value.none from r);rfl
  | bl b=>cases (show u=Value.bool b from r);rfl
  | int i=>obtain⟨t,e⟩:=(show ∃t,u=Value.int i t from r);cases e;rfl
  | str x=>obtain⟨t,e⟩:=(show ∃t,u=Value.str x t from r);cases e;rfl
  | byt b=>obtain⟨t,e⟩:=(show ∃t,u=Value.bytes b t from r);cases e;rfl
  | flt b=>obtain⟨t,e⟩:=(show ∃t,u=Value.float b t from r);cases e;rfl
  | ref a=>cases (show u=Value.ref a from r);rfl
  | ty n=>cases (show u=Value.type n from r);rfl
section
variable{P:Nl}{w:Nj}{H H':Hp}{h h':Nk}{a C dx:xM}{fs fs':List (Str × V)}
theorem rQ(hok:mY P w H h)(e:H a=some (.ins C dx fs)):∃mA,uX h a dx C mA∧(∀f,p5 (fs.lookup f) (mA f))∧PySem.Within mA (fs.map (·.1))∧fs.length≤1000∧H dx=some (.own a):=by
  obtain⟨d,z,ne,ob,mA,n,r,q⟩:=(show eZ P w H h a (.ins C dx fs) from hok a _ e)
  exact⟨mA,⟨ob,n,ne⟩,r,q,z,d⟩
end
structure pY (K:Ng) (C:xM):Prop where
  pg:Qu K C Pc=true
  hd:QT K C=true
  po:PySem.W.plainOver K C=true
  sa:OD K (.ref C) "__setattr__"=some (some (.builtin "object.__setattr__"))
theorem pY.get{K:Ng}{C:xM}(c:pY K C)(f:Str):Qu K C f=true:=c.pg
def bx(K:Ng)(C:xM)(f:Str):Prop:=OD K (.ref C) f=some none
theorem bx.taker{K:Ng}{C:xM}{f:Str}(n:bx K C f):PySem.W.takerIn K C f=some none:=by
  unfold PySem.W.takerIn
  rw [show OD K (.ref C) f=some none from n]
  rfl
structure Kt (K:Ng) (C:xM) (f:Str) (v:V) (u:Kz):Prop where
  at_:OD K (.ref C) f=some (some u)
  rel:bE v u
  get:PySem.W.specialIn K u "__get__"=some none
  cp:PySem.W.copiedNames.contains f=false
structure lS (K:Ng) (C:xM) (m:Str) (f:xM):Prop where
  at_:OD K (.ref C) m=some (some (.ref f))
  fn:PySem.W.isFn K (.ref f)=true
  kp:Po K (.ref f)=true
section
variable{X:Cx}{pins:List (xM × Obj)}{σ:St}{H:Hp}{s:Nc}{a C dx:xM}{fs:List (Str × V)}{f:Str}{v:V}{A:Nn}{E:Kz→Nc→Prop}
theorem vg{b:Bool}{Q:Kz→Nc→Prop}(I:aH X pins σ H s)(e:H a=some (.ins C dx fs))(c:pY X.K C)(n:bx X.K C f)(l:fs.lookup f=some v)
    (h:∀u s',aH X pins σ H s'→bE v u→Q u s'):Np (Nr X.prog X.w) A (getAttr (.ref a) f b) Q E s:=by
  obtain⟨mA,O,r,_,_,_⟩:=rQ I.hok e
  obtain⟨u,hu,ru⟩:=p5.some_of (v:=v) (o:=mA f) (by rw [←l];exact r f)
  exact Bx I.kIn O (c.get f) c.hd n hu (xG ru) (h u _ (I.tok _) ru)
theorem oM{m:Str}{g:xM}{pl:Sem Bool}{Q:Kz × List Kz→Nc→Prop}(I:aH X pins σ H s)(e:H a=some (.ins C dx fs))(c:pY X.K C)(k:lS X.K C m g)(l:fs.lookup m=none)
    (h:Q (.ref g,[.ref a]) s):Np (Nr X.prog X.w) A (getMethod (.ref a) m pl) Q E s:=by
  obtain⟨mA,O,r,_,_,_⟩:=rQ I.hok e
  have hn:mA m=none:=p5.none_of (by rw [←l];exact r m)
  exact yX I.kIn O (c.get m) k.at_ k.fn hn h
theorem vN{y:V}{u:Kz}{Q:Unit→Nc→Prop}(I:aH X pins σ H s)(e:H a=some (.ins C dx fs))(c:pY X.K C)(n:bx X.K C f)(hl:fs.length < 1000)(ry:bE y u)
    (h:∀s',aH X pins σ (bw H a (.ins C dx (h8 f y fs))) s'→Q () s'):Np (Nr X.prog X.w) A (setAttr (.ref a) f u) Q E s:=by
  obtain⟨mA,O,r,wi,_,ho⟩:=rQ I.hok e
  have hz:(fs.map (·.1)).length≤Ny:=by rw [NN,Oh];lia
  refine CJ I.kIn O c.sa c.po n.taker c.hd wi hz fun h' O' sb=>h _ ?_
  have hd:∃o,h'.get? dx=some o:=let ⟨o,_,_,e',_⟩:=O'.ns;⟨o,e'⟩
  refine I.write (x:=a) (e:=dx) (by rw [e];exact PU) (.inr ho) (fun b q hb z=>(sb.2 b hb).trans z) hd ?_
  refine⟨by rw [av O.ne];exact ho,?_,O.ne,O'.obj,_,O'.ns,fun g=>?_,fun g hg=>?_⟩
  · have:=mI f y fs;lia
  · show p5 ((h8 f y fs).lookup g) (if g=f then some u else mA g)
    rw [mJ]
    by_cases q:g=f
    · rw [if_pos q,if_pos q];exact ry
    · rw [if_neg q,if_neg q];exact r g
  · by_cases q:g=f
    · rw [q];exact(l6 f y fs).1
    · refine(l6 f y fs).2 g (wi g fun z=>hg ?_)
      show(if g=f then some u else mA g)=none
      rw [if_neg q];exact z
theorem aH.made(I:aH X pins σ H s):aH X pins σ (bw (bw H s.heap.objs.size (.own (s.heap.objs.size+1))) (s.heap.objs.size+1) (.ins C s.heap.objs.size []))
    {s with heap:=(s.heap.push Pi).push (Pl C s.heap.objs.size)}:=by
  have e1:(s.heap.push Pi).get? s.heap.objs.size=some Pi:=Oo s.heap rfl
  have e2:((s.heap.push Pi).push (Pl C s.heap.objs.size)).get? (s.heap.objs.size+1)=some (Pl C s.heap.objs.size):=by
    have:=Oo (s.heap.push Pi) (o:=Pl C s.heap.objs.size) rfl
    rwa [Qe] at this
  have e3:(s.heap.push Pi).Ns s.heap.objs.size (fun _=>none):=⟨Pi,#[],_,e1,rfl,(fun e he=>absurd he (by simp)),fun _=>rfl⟩
  have I1:=I.laid (a:=s.heap.objs.size) (o:=.own (s.heap.objs.size+1)) (h':=s.heap.push Pi) (t':=s.toks) (fun b u q=>NS _ q) (NA _) ⟨_,e1⟩
  refine I1.laid (a:=s.heap.objs.size+1) (o:=.ins C s.heap.objs.size []) (t':=s.toks) (fun b u q=>NS _ q) (Nat.le_of_eq (Qe _ _)) ?_
  have ne:s.heap.objs.size≠s.heap.objs.size+1:=Oq (Nat.lt_succ_self _)
  refine⟨by rw [av ne,ar],OS _,ne,e2,fun _=>none,(Heap.Ns1.of_empty e3).at fun o q=>NS _ q,fun _=>PU,fun y hy=>absurd rfl hy⟩
theorem Bk{prog:Nl}{w:Nj}{env:Env}{e:Nh}{f:Str}{pos:Pos}{s:Nc}{Q:Kz→Nc→Prop}(hb:Oy e f env (Nt e env)=Nt e env)
    (h:Np (Nr prog w) A (Nt e env) (fun o s₁=>Np (Nr prog w) A (getAttr o f true) Q E s₁) E s):Np (Nr prog w) A (Nt (.Attribute e f pos) env) Q E s:=
  Attribute_any_ h (by rw [arm_eval_Attribute,hb])
end
def Jt(K:Ng)(ta:TE)(f:Str):TE:=fun σ H Q=>ta σ H fun x H1=>∃a C dx fs v,x=.ref a∧H1 a=some (.ins C dx fs)∧pY K C∧bx K C f∧fs.lookup f=some v∧Q v H1
def Jq(K:Ng)(ta tv:TE)(f:Str):TS:=fun D σ H=>tv σ H fun y H1=>ta σ H1 fun x H2=>∃a C dx fs,x=.ref a∧H2 a=some (.ins C dx fs)∧pY K C∧bx K C f∧fs.length < 1000∧
  D.nx σ (bw H2 a (.ins C dx (h8 f y fs)))
section
variable{X:Cx}{o e value:Nh}{f:Str}{pos pos' tpos:Pos}{ta tv:TE}
theorem Fd(he:PE X e ta)(hb:Oy e f X.env (Nt e X.env)=Nt e X.env):PE X (.Attribute e f pos) (Jt X.K ta f):=by
  intro pins s σ H Q I h
  refine Bk hb (cA (he pins s σ H _ I h) fun u s1 ⟨x,H1,I1,rx,a,C,dx,fs,v,ex,ea,c,n,l,q⟩=>?_)
  subst ex
  obtain rfl:u=Value.ref a:=rx
  exact vg I1 ea c n l fun u' s2 I2 ru=>⟨v,H1,I2,ru,q⟩
theorem Fj(ha:PE X o ta)(hv:PE X value tv)(hs:Pa value (some (.Attribute o f pos')) pos.line X.env=pure false):PS X (.Assign [.Attribute o f pos'] value pos) (Jq X.K ta tv f):=by
  intro pins s σ H D I h
  refine plainObj_wpAny_Assign_Attribute (cA (hv pins s σ H _ I h) fun u s1 ⟨y,H1,I1,ry,q⟩=>cA (ha pins s1 σ H1 _ I1 q) fun ov s2 ⟨x,H2,I2,rx,a,C,dx,fs,ex,ea,c,n,l,q2⟩=>?_) hs
  subst ex
  obtain rfl:ov=Value.ref a:=rx
  exact vN I2 ea c n l ry fun s3 I3=>⟨σ,_,I3,q2⟩
end
section
variable{X:Cx}{pins:List (xM × Obj)}{σ:St}{H:Hp}{s:Nc}{A:Nn}{E:Kz→Nc→Prop}{Q:Kz→Nc→Prop}{c:Kz}{b:Bool}
inductive nU (K:Ng) (H:Hp):V→Kz→Prop where
  | non:nU K H .non (.type "NoneType")
  | bl (x:Bool):nU K H (.bl x) (.type "bool")
  | int (i:Int):nU K H (.int i) (.type "int")
  | str (x:Str):nU K H (.str x) (.type "str")
  | flt (x:UInt64):nU K H (.flt x) (.type "float")
  | lst {a:xM} {xs:List V} (e:H a=some (.lst xs)):nU K H (.ref a) (.type "list")
  | frz {a:xM} {o:Obj} {xs:List V} (e:H a=some (.frz o (.lst xs))):nU K H (.ref a) (.type "list")
  | tup {a:xM} {xs:List V} (e:H a=some (.tup xs)):nU K H (.ref a) (.type "tuple")
  | dK {a:xM} {kvs:List (jg × V)} (e:H a=some (.dK kvs)):nU K H (.ref a) (.type "dict")
  | dT {a:xM} {kvs:List (List jg × V)} (e:H a=some (.dT kvs)):nU K H (.ref a) (.type "dict")
  | ins {a C dx:xM} {fs:List (Str × V)} (e:H a=some (.ins C dx fs)) (cl:pY K C) (ha:OD K (.ref C) "__class__"=some (some (.builtin "object.__class__")))
      (hn:PySem.W.specialIn K (.builtin "object.__class__") "__get__"=some (some (.builtin "getset_descriptor.__get__"))) (htk:PySem.W.takesIn K (.builtin "object.__class__")=some true)
      (hm:PySem.W.mroIn K C (.type "object")=some true):nU K H (.ref a) (.ref C)
end
structure bK (k:Nat) (A:Nn):Prop where
  hd:A.handled=none
  dp:A.depth+3*k+5 < recursionLimit
  un:A.units+16*k+200 < cLine
  gd:A.guards=some []
theorem bK.mono{j k:Nat}{A:Nn}(r:bK k A)(h:j≤k):bK j A:=⟨r.hd,by have:=r.dp;lia,by have:=r.un;lia,r.gd⟩
theorem bK.deeper{k:Nat}{A:Nn}(r:bK (k+1) A)(env:Env):bK k (A.deeper env):=
  ⟨r.hd,by have:=r.dp;show A.depth+1+3*k+5 < _;lia,by have:=r.un;show A.units+3+16*k+200 < _;lia,r.gd⟩
theorem vx{A:Nn}{C:xM}{us:List Kz}{kw:List (Str × Kz)}:(A.under (.builtin "type.__call__" ⟨.ref C::us,kw⟩)).depth=A.depth+1:=by
  first | rfl | simp [Qv,Code.weight,Code.isCreation,Code.isGuard,Code.isCaller,Code.frames,Code.isFrame,guardIds]
theorem vy{A:Nn}{C:xM}{us:List Kz}{kw:List (Str × Kz)}:(A.under (.builtin "type.__call__" ⟨.ref C::us,kw⟩)).units=A.units+1:=by
  first | rfl | simp [Qv,Code.cUnits,Code.frames,Code.isFrame]
theorem bK.make{k:Nat}{A:Nn}(r:bK (k+1) A)(C:xM)(us:List Kz)(kw:List (Str × Kz)):bK k (A.under (.builtin "type.__call__" ⟨.ref C::us,kw⟩)):=
  ⟨r.hd,by have:=r.dp;rw [vx];lia,by have:=r.un;rw [vy];lia,by first | exact r.gd | simpa [Qv,Code.isGuard,guardIds] using r.gd⟩
theorem bK.depth{k:Nat}{A:Nn}(r:bK k A):A.depth < recursionLimit:=by have:=r.dp;lia
theorem bK.units{k:Nat}{A:Nn}(r:bK k A):A.units+64 < cLine:=by have:=r.un;lia
def AK:TA:=fun _ H Q=>Q [] H
def mU(ta:TE)(tr:TA):TA:=fun σ H Q=>ta σ H fun x H1=>tr σ H1 fun xs H2=>Q (x::xs) H2
section
variable{X:Cx}{e:Nh}{es:List Nh}{te:TE}{t:TA}{pos:Pos}
theorem gR:PA X [] AK:=fun _ _ _ _ H Q I h=>Calls.spliced_nil ⟨[],H,I,.nil,h⟩
theorem lw(ha:PE X e te)(hr:PA X es t)(hs:Nq (e::es) X.env=(false,Nt e X.env)::Nq es X.env:=by rfl):PA X (e::es) (mU te t):=by
  intro pos pins s σ H Q I h
  rw [hs]
  show Np _ _ (spliced ((false,Nt e X.env)::ND pos (Nq es X.env))) _ _ s
  refine Calls.spliced_cons (cA (ha pins s σ H _ I h) fun u s1 ⟨x,H1,I1,r1,q1⟩=>?_)
  exact cA (hr pos pins s1 σ H1 _ I1 q1) fun us s2 ⟨xs,H2,I2,r2,q2⟩=>⟨x::xs,H2,I2,.cons r1 r2,q2⟩
def HZ(t:TA):TE:=fun σ H Q=>t σ H fun xs H1=>xs.length≤Ny∧∀p,H1 p=none→Q (.ref p) (bw H1 p (.tup xs))
def HS(t:TA):TE:=fun σ H Q=>t σ H fun xs H1=>xs.length≤Ny∧∀p,H1 p=none→Q (.ref p) (bw H1 p (.lst xs))
theorem zP{x1}(h:PA X es t):PE X (.Tuple es x1 pos) (HZ t):=by
  intro pins s σ H Q I hq
  refine wpAny_Tuple_spliced (cA (h pos pins s σ H _ I hq) fun us s1 ⟨xs,H1,I1,r,z,q⟩=>⟨by rw [←r.length];exact z,?_⟩)
  have hf:H1 s1.heap.objs.size=none:=I1.hok.fresh (NA _)
  refine⟨.ref s1.heap.objs.size,bw H1 s1.heap.objs.size (.tup xs),I1.laid (t':=s1.toks) (fun b u e=>NS _ e) (NA _) ?_,rfl,q _ hf⟩
  exact⟨z,us,r,⟨_,Oo _ rfl,rfl,_,rfl,rfl⟩⟩
theorem vG(h:PA X es t):PE X (.List es pos) (HS t):=by
  intro pins s σ H Q I hq
  refine wpAny_List_spliced (cA (h pos pins s σ H _ I hq) fun us s1 ⟨xs,H1,I1,r,z,q⟩=>⟨by rw [←r.length];exact z,?_⟩)
  have hf:H1 s1.heap.objs.size=none:=I1.hok.fresh (NA _)
  refine⟨.ref s1.heap.objs.size,bw H1 s1.heap.objs.size (.lst xs),I1.laid (t':=s1.toks) (fun b u e=>NS _ e) (NA _) ?_,rfl,q _ hf⟩
  exact⟨z,us,0,r,Oo _ rfl⟩
end
abbrev Sp:=List V→Hp→VK→XK→Prop
abbrev sZ:=List Env→Hp→Nc→XK→Kz→Nc→Prop
structure uW (P:Nl) (w:Nj) (K:Ng) (mg:Str→Option Kz) (base:Nk) (A:Nn) (outer:List Env) (s:Nc) (H:Hp):Prop where
  frames:A.frames=some outer
  mod:Mod K mg base
  bs:∀b o,base.get? b=some o→s.heap.get? b=some o∧H b=none
  bsz:base.objs.size≤s.heap.objs.size
  funs:s.heap.FunFrames base outer
  frf:∀b∈yL outer,H b=none
  hok:mY P w H s.heap
  bare:AllBare s.gens
def CE(outer:List Env)(P:Nl)(w:Nj)(H:Hp)(s:Nc)(Q:VK)(u:Kz)(s':Nc):Prop:=
  ∃v H',s'.os=s.os∧AllBare s'.gens∧Un (yL outer) [] H H' s.heap s'.heap∧mY P w H' s'.heap∧bE v u∧Q v H'
def CR(CX:sZ)(outer:List Env)(P:Nl)(w:Nj)(H:Hp)(s:Nc)(Q:VK)(E:XK)(r:Result)(s':Nc):Prop:=
  match r with
  | .ok (.ret u)=>CE outer P w H s Q u s'
  | .ok _=>False
  | .error e=>CX outer H s E e s'
structure aG (P:Nl) (w:Nj) (K:Ng) (mg:Str→Option Kz) (base:Nk) (CX:sZ) (k:Nat) (f:xM) (fd:Nx) (ps:List Str) (sp:Sp):Prop where
  len:∀vs H Q E,sp vs H Q E→vs.length=ps.length
  run:∀(A:Nn) (outer:List Env) (s:Nc) (H:Hp) (args:Args) (us:List Kz) (vs:List V) (Q:VK) (E:XK),bK k A→uW P w K mg base A outer s H→BindsTo s fd args (ps.zip us)→aS vs us→sp vs H Q E→
    codeAny (Nr P w) A (.call (.ref f) args) (CR CX outer P w H s Q E) s
theorem aG.mono{P:Nl}{w:Nj}{K:Ng}{mg:Str→Option Kz}{base:Nk}{CX:sZ}{j k:Nat}{f:xM}{fd:Nx}{ps:List Str}{sp:Sp}(F:aG P w K mg base CX j f fd ps sp)(h:j≤k):
    aG P w K mg base CX k f fd ps sp:=⟨F.len,fun A outer s H args us vs Q E hr=>F.run A outer s H args us vs Q E (hr.mono h)⟩
theorem aG.imp{P:Nl}{w:Nj}{K:Ng}{mg:Str→Option Kz}{base:Nk}{CX:sZ}{k:Nat}{f:xM}{fd:Nx}{ps:List Str}{sp sp':Sp}(F:aG P w K mg base CX k f fd ps sp)
    (h:∀vs H Q E,sp' vs H Q E→sp vs H Q E):aG P w K mg base CX k f fd ps sp':=
  ⟨fun vs H Q E q=>F.len vs H Q E (h _ _ _ _ q),fun A outer s H args us vs Q E hr he hb hv hs=>F.run A outer s H args us vs Q E hr he hb hv (h _ _ _ _ hs)⟩
theorem uW.make{P:Nl}{w:Nj}{K:Ng}{mg:Str→Option Kz}{base:Nk}{A:Nn}{outer:List Env}{s:Nc}{H:Hp}(e:uW P w K mg base A outer s H)(C:xM)(us:List Kz)(kw:List (Str × Kz)):
    uW P w K mg base (A.under (.builtin "type.__call__" ⟨.ref C::us,kw⟩)) outer s H:=⟨by first | exact e.frames | (simpa [Qv,Code.envs,Code.isFrame,pushEnvs] using e.frames),e.mod,e.bs,e.bsz,e.funs,e.frf,e.hok,e.bare⟩
section
variable{X:Cx}{pins:List (xM × Obj)}{σ:St}{H:Hp}{s s':Nc}
theorem aH.env0(I:aH X pins σ H s):uW X.prog X.w X.K X.mg X.base X.A X.stack s H:=
  ⟨I.ok.frames,I.ok.mod,I.bs,NR I.ok.bsz I.sz,I.stack,I.stkFree,I.hok,I.bare⟩
theorem aH.after{Q:VK}{u:Kz}(I:aH X pins σ H s)(h:CE X.stack X.prog X.w H s Q u s'):EP X pins σ Q u s':=by
  obtain⟨v,H',os,bare,un,hok,r,q⟩:=h
  obtain⟨hh,g,d,t,os'⟩:=s'
  obtain rfl:os'=s.os:=os
  exact⟨v,H',I.call (h':=hh) (g':=g) (d':=d) (t':=t) (ch:=[]) un hok bare (fun b z=>absurd z (by simp)),r,q⟩
end
def qX(sp:Sp)(dvs:List V)(E:XK)(t:TA):TE:=fun σ H Q=>t σ H fun vs H1=>sp (vs++dvs) H1 Q E
def AJ(C:xM)(m:Str)(sp:Sp)(dvs:List V)(E:XK)(ta:TE)(t:TA):TE:=fun σ H Q=>ta σ H fun x H1=>∃a dx fs,x=.ref a∧H1 a=some (.ins C dx fs)∧fs.lookup m=none∧
  t σ H1 fun vs H2=>sp (x::(vs++dvs)) H2 Q E
def HU(C:xM)(sp:Sp)(dvs:List V)(E:XK)(t:TA):TE:=fun σ H Q=>t σ H fun vs H1=>∀x dx,H1 x=none→H1 dx=none→dx≠x→
  sp (.ref x::(vs++dvs)) (bw (bw H1 dx (.own x)) x (.ins C dx [])) (fun v H2=>v=.non∧Q (.ref x) H2) E
def dz(K:Ng)(fd:Nx)(ps:List Str)(ds:List Kz):Prop:=
  ∀(s:Nc) (us:List Kz),K.In s.heap→(us++ds).length=ps.length→BindsTo s fd ⟨us,[]⟩ (ps.zip (us++ds))
theorem dz.all{K:Ng}{fd:Nx}{ps:List Str}(h:∀us:List Kz,us.length=ps.length→bindArgs fd ⟨us,[]⟩=pure (ps.zip us)):dz K fd ps []:=fun s us _ hl=>by
  rw [OP] at hl ⊢
  exact .of_eq (h us hl)
def j5(CX:sZ)(X:Cx)(E:XK):Prop:=∀(pins:List (xM × Obj)) (σ:St) (H:Hp) (s:Nc) (e:Kz) (s':Nc),aH X pins σ H s→CX X.stack H s E e s'→X.xe e s'
section
variable{X:Cx}{CX:sZ}{k:Nat}{f C:xM}{fd:Nx}{ps:List Str}{sp:Sp}{dvs:List V}{ds:List Kz}{E:XK}{x m:Str}{p pos apos:Pos}{e o:Nh}{es:List Nh}{ta:TE}{t:TA}
theorem sM{pins:List (xM × Obj)}{σ:St}{H:Hp}{s:Nc}{Q:VK}{us:List Kz}{vs:List V}(F:aG X.prog X.w X.K X.mg X.base CX k f fd ps sp)(hr:bK k X.A)(hb:dz X.K fd ps ds)(hd:aS dvs ds)(hx:j5 CX X E)
    (I:aH X pins σ H s)(r:aS vs us)(h:sp (vs++dvs) H Q E):Np (Nr X.prog X.w) X.A (call (.ref f) us) (EP X pins σ Q) X.xe s:=by
  have r2:aS (vs++dvs) (us++ds):=r.append hd
  have hl:(us++ds).length=ps.length:=by rw [←r2.length];exact F.len _ _ _ _ h
  refine wpAny_call (codeAny_mono (F.run X.A X.stack s H ⟨us,[]⟩ (us++ds) (vs++dvs) Q E hr I.env0 (hb s us I.kIn hl) r2 h) fun r s' hq=>?_)
  cases r with
  | error e=>exact hx pins σ H s e s' I hq
  | ok fl=>
    cases fl with
    | ret u=>exact I.after hq
    | next=>exact OC hq
    | brk=>exact OC hq
    | cont=>exact OC hq
theorem Cd(F:aG X.prog X.w X.K X.mg X.base CX k f fd ps sp)(hr:bK k X.A)(hg:Gl X x)(hm:X.mg x=some (.ref f))(hk:Po X.K (.ref f)=true)(hb:dz X.K fd ps ds)(hd:aS dvs ds)(hx:j5 CX X E)
    (ha:PA X (e::es) t)(hdb:(x==("__debug__":Str))=false:=by decide)(he:Nq (e::es) X.env=(false,Nt e X.env)::Nq es X.env:=by rfl)(hpl:(ND pos (Nq es X.env)).any (·.1)=false:=by rfl):
    PE X (.Call (.Name x p) (e::es) [] pos) (qX sp dvs E t):=by
  intro pins s σ H Q I h
  refine Qf (lh I hg hm ?_ hdb)
  refine Qw (h₀:=X.base) I.ok.mod.kin hk (cA (ha pos pins s σ H _ I h) fun us s1 ⟨vs,H1,I1,r,q⟩=>⟨I1.kIn,?_⟩) he hpl
  exact sM F hr hb hd hx I1 r q
theorem Ci{pl:Sem Bool}(he:PE X o ta)(c:pY X.K C)(hm:lS X.K C m f)(F:aG X.prog X.w X.K X.mg X.base CX k f fd ps sp)(hr:bK k X.A)(hb:dz X.K fd ps ds)(hd:aS dvs ds)(hx:j5 CX X E)(ha:PA X (e::es) t)
    (hst:Nq (e::es) X.env=(false,Nt e X.env)::Nq es X.env:=by rfl)(hpl:(ND pos (Nq es X.env)).any (·.1)=false:=by rfl)
    (ht:Nt (.Call (.Attribute o m apos) (e::es) [] pos) X.env=(do
      let ov ←Nt o X.env
      standAt apos.atName
      let (f,first) ←holding [ov] (getMethod ov m pl)
      callWith pos f first (ND pos (Nq (e::es) X.env)) (OT pos (OU [] X.env))):=by rfl):
    PE X (.Call (.Attribute o m apos) (e::es) [] pos) (AJ C m sp dvs E ta t):=by
  intro pins s σ H Q I h
  refine PySem.W.methodCall_KW (pl:=pl) (cA (he pins s σ H _ I h) fun u s1 ⟨x,H1,I1,rx,a,dx,fs,ex,ea,l,q⟩=>?_) ht
  subst ex
  obtain rfl:u=Value.ref a:=rx
  refine oM I1 ea c hm l ?_
  refine Qw (first:=[.ref a]) (h₀:=X.base) I.ok.mod.kin hm.kp (cA (ha pos pins s1 σ H1 _ I1 q) fun us s2 ⟨vs,H2,I2,r,q2⟩=>⟨I2.kIn,?_⟩) hst hpl
  exact sM (us:=.ref a::us) (vs:=.ref a::vs) F hr hb hd hx I2 (.cons rfl r) q2
theorem zN{pl:Sem Bool}(he:PE X o ta)(c:pY X.K C)(hm:lS X.K C m f)(F:aG X.prog X.w X.K X.mg X.base CX k f fd ps sp)(hr:bK k X.A)(hb:dz X.K fd ps ds)(hd:aS dvs ds)(hx:j5 CX X E)
    (ht:Nt (.Call (.Attribute o m apos) [] [] pos) X.env=(do
      let ov ←Nt o X.env
      standAt apos.atName
      let (f,first) ←holding [ov] (getMethod ov m pl)
      callWith pos f first (ND pos (Nq [] X.env)) (OT pos (OU [] X.env))):=by rfl):
    PE X (.Call (.Attribute o m apos) [] [] pos) (AJ C m sp dvs E ta AK):=by
  intro pins s σ H Q I h
  refine PySem.W.methodCall_KW (pl:=pl) (cA (he pins s σ H _ I h) fun u s1 ⟨x,H1,I1,rx,a,dx,fs,ex,ea,l,q⟩=>?_) ht
  subst ex
  obtain rfl:u=Value.ref a:=rx
  refine oM I1 ea c hm l ?_
  exact PySem.W.callWith_K0 (first:=[.ref a]) I1.kIn hm.kp (sM (us:=[.ref a]) (vs:=[.ref a]) F hr hb hd hx I1 (.cons rfl .nil) q)
structure Mk (K:Ng) (C f:xM):Prop where
  makes:PySem.W.makesIn K C=true
  init:OD K (.ref C) "__init__"=some (some (.ref f))
  fn:PySem.W.isFn K (.ref f)=true
  kp:Po K (.ref C)=true
theorem Ap{pins:List (xM × Obj)}{σ:St}{H:Hp}{s:Nc}{Q:VK}{us:List Kz}{vs:List V}(M:Mk X.K C f)(F:aG X.prog X.w X.K X.mg X.base CX k f fd ps sp)(hr:bK (k+1) X.A)(hb:dz X.K fd ps ds)(hd:aS dvs ds)
    (hx:j5 CX X E)(I:aH X pins σ H s)(r:aS vs us)
    (h:∀x dx,H x=none→H dx=none→dx≠x→sp (.ref x::(vs++dvs)) (bw (bw H dx (.own x)) x (.ins C dx [])) (fun v H2=>v=.non∧Q (.ref x) H2) E):
    Np (Nr X.prog X.w) X.A (call (.ref C) us) (EP X pins σ Q) X.xe s:=by
  have hq:=h (s.heap.objs.size+1) s.heap.objs.size (I.hok.fresh (Nat.le_succ _)) (I.hok.fresh (NA _)) (Oq (Nat.lt_succ_self _))
  have I2:=aH.made (C:=C) I
  have r2:aS (V.ref (s.heap.objs.size+1)::(vs++dvs)) (Value.ref (s.heap.objs.size+1)::(us++ds)):=.cons rfl (r.append hd)
  have hl:(Value.ref (s.heap.objs.size+1)::us++ds).length=ps.length:=by
    have e:=r2.length
    rw [F.len _ _ _ _ hq] at e
    exact e.symm
  refine wpAny_call (zm (f:=f) I.kIn M.makes M.init (beq_iff_eq.mp M.fn) (codeAny_mono (F.run _ X.stack _ _ ⟨Value.ref (s.heap.objs.size+1)::us,[]⟩ (Value.ref (s.heap.objs.size+1)::(us++ds)) _ _ E (hr.make C us [])
    (I2.env0.make C us []) (hb _ (Value.ref (s.heap.objs.size+1)::us) I2.kIn hl) r2 hq) fun r s' hq'=>?_))
  cases r with
  | error e=>exact hx pins σ _ _ e s' I2 hq'
  | ok fl=>
    cases fl with
    | ret u=>
      obtain⟨v,H',I3,rv,ev,q3⟩:=I2.after hq'
      subst ev
      exact⟨rv,⟨V.ref (s.heap.objs.size+1),H',I3,rfl,q3⟩⟩
    | next=>exact OC hq'
    | brk=>exact OC hq'
    | cont=>exact OC hq'
theorem Cg(M:Mk X.K C f)(F:aG X.prog X.w X.K X.mg X.base CX k f fd ps sp)(hr:bK (k+1) X.A)(hg:Gl X x)(hm:X.mg x=some (.ref C))(hb:dz X.K fd ps ds)(hd:aS dvs ds)(hx:j5 CX X E)
    (ha:PA X (e::es) t)(hdb:(x==("__debug__":Str))=false:=by decide)(he:Nq (e::es) X.env=(false,Nt e X.env)::Nq es X.env:=by rfl)(hpl:(ND pos (Nq es X.env)).any (·.1)=false:=by rfl):
    PE X (.Call (.Name x p) (e::es) [] pos) (HU C sp dvs E t):=by
  intro pins s σ H Q I h
  refine Qf (lh I hg hm ?_ hdb)
  refine Qw (h₀:=X.base) I.ok.mod.kin M.kp (cA (ha pos pins s σ H _ I h) fun us s1 ⟨vs,H1,I1,r,q⟩=>⟨I1.kIn,?_⟩) he hpl
  exact Ap M F hr hb hd hx I1 r q
end
section
variable{X:Cx}{CX:sZ}{k:Nat}{f C:xM}{fd:Nx}{ps ks:List Str}{sp:Sp}{E:XK}{x m:Str}{p pos apos kpos:Pos}{e o:Nh}{es:List Nh}{kws:List Oi}{te ta:TE}{t tk:TA}{nm:Option Str}
structure IK (K:Ng) (fd:Nx) (ps ks:List Str) (g:List Kz→List Kz→List Kz) (gV:List V→List V→List V):Prop where
  to:∀(s:Nc) (us ws:List Kz),K.In s.heap→(g us ws).length=ps.length→BindsTo s fd ⟨us,ks.zip ws⟩ (ps.zip (g us ws))
  rel:∀{vs:List V} {us:List Kz} {zs:List V} {ws:List Kz},aS vs us→aS zs ws→aS (gV vs zs) (g us ws)
variable{g:List Kz→List Kz→List Kz}{gV:List V→List V→List V}
end
structure au (N P:List Str) (sc:NL):Prop where
  kind:sc.kind=.function
  co:sc.isCoroutine=false
  gen:sc.isGenerator=false
  nd:N.Nodup
  pre:N.take P.length=P
  par:∀x∈P,sc.names.lookup x=some .local∨sc.names.lookup x=some .cell
  nofree:∀y∈sc.names,y.2≠.free
theorem qr{OE:Str→Option Oj}{x:Str}:∀{binds:List (Str × Kz)} {m:Str→Option Kz},(∀v,(x,v)∉binds)→bindL OE binds m x=m x
  | [],_,_=>rfl
  | (n,v)::r,m,h=>by
    unfold bindL
    rw [qr fun w hw=>h w (Ow _ hw)]
    split
    · have:x≠n:=by rintro rfl;exact h v OZ
      simp [this]
    · rfl
theorem qp{OE:Str→Option Oj}{x:Str}:∀{binds:List (Str × Kz)} {m:Str→Option Kz},(∀v,(x,v)∉binds)→bindC OE binds m x=m x
  | [],_,_=>rfl
  | (n,v)::r,m,h=>by
    unfold bindC
    rw [qp fun w hw=>h w (Ow _ hw)]
    split
    · rfl
    · have:x≠n:=by rintro rfl;exact h v OZ
      simp [this]
theorem qq{OE:Str→Option Oj}{x:Str}{v:Kz}:∀{P:List Str} {vs:List Kz} {i:Nat} {m:Str→Option Kz},P.Nodup→P[i]?=some x→vs[i]?=some v→OE x=some .local→
    bindL OE (P.zip vs) m x=some v
  | [],_,_,_,_,h,_,_=>by simp at h
  | _::_,[],_,_,_,_,h,_=>by simp at h
  | p::P,w::vs,0,m,nd,h1,h2,hk=>by
    simp at h1 h2;subst h1;subst h2
    show bindL OE ((p,w)::P.zip vs) m p=_
    unfold bindL
    rw [qr fun v hv=>(Pp.mp nd).1 (List.of_mem_zip hv).1,if_pos hk]
    simp
  | p::P,w::vs,i+1,m,nd,h1,h2,hk=>by
    show bindL OE ((p,w)::P.zip vs) m x=_
    unfold bindL
    exact qq (i:=i) (Pp.mp nd).2 (by simpa using h1) (by simpa using h2) hk
theorem qo{OE:Str→Option Oj}{x:Str}{v:Kz}:∀{P:List Str} {vs:List Kz} {i:Nat} {m:Str→Option Kz},P.Nodup→P[i]?=some x→vs[i]?=some v→OE x≠some .local→
    bindC OE (P.zip vs) m x=some v
  | [],_,_,_,_,h,_,_=>by simp at h
  | _::_,[],_,_,_,_,h,_=>by simp at h
  | p::P,w::vs,0,m,nd,h1,h2,hk=>by
    simp at h1 h2;subst h1;subst h2
    show bindC OE ((p,w)::P.zip vs) m p=_
    unfold bindC
    rw [qp fun v hv=>(Pp.mp nd).1 (List.of_mem_zip hv).1,if_neg hk]
    simp
  | p::P,w::vs,i+1,m,nd,h1,h2,hk=>by
    show bindC OE ((p,w)::P.zip vs) m x=_
    unfold bindC
    exact qo (i:=i) (Pp.mp nd).2 (by simpa using h1) (by simpa using h2) hk
def gM(N:List Str)(vs:List V):St:=vs.map some++Nv (N.length - vs.length) none
def tK(CX:sZ)(P:Nl)(w:Nj)(K:Ng)(mg:Str→Option Kz)(base:Nk)(N:List Str)(qual:Str)(scope:NL)(f:xM)(cd:Kz)(A:Nn)(outer:List Env)(s:Nc)(H:Hp)(E:XK):Cx where
  prog:=P
  w:=w
  K:=K
  mg:=mg
  base:=base
  A:=A.deeper (envOfC qual scope s.heap.objs.size f cd)
  N:=N
  s₀:=s
  H₀:=H
  env:=envOfC qual scope s.heap.objs.size f cd
  outer:=outer
  stack:=envOfC qual scope s.heap.objs.size f cd::outer
  ex:=[]
  calm:=true
  fn:=fun _=>true
  pn:=[]
  xe:=fun e s'=>Np (Nr P w) (A.deeper (envOfC qual scope s.heap.objs.size f cd)) (leaving (envOfC qual scope s.heap.objs.size f cd) e) (fun _ s''=>CX outer H s E e s'') (fun e' s''=>CX outer H s E e' s'') s'
theorem tH{sc:NL}{n:Nat}{x:Str}(h:sc.names.lookup x=some .cell):∃c,(NO n sc.names []).lookup x=some c:=by
  have q:=PySem.W.cellsFrom_some sc.names n [] (.inl h)
  exact Option.isSome_iff_exists.mp q
theorem xI{CX:sZ}{P:Nl}{w:Nj}{K:Ng}{mg:Str→Option Kz}{base:Nk}{N ps:List Str}{qual:Str}{scope:NL}{f:xM}{cd:Kz}{A:Nn}{outer:List Env}{s s1:Nc}{H:Hp}{E:XK}{us:List Kz}{vs:List V}
    (S:au N ps scope)(hd:A.handled=none)(e0:uW P w K mg base A outer s H)(hl:vs.length=ps.length)(r:aS vs us)
    (x:InCallC s s.heap.objs.size (bindL (envOfC qual scope s.heap.objs.size f cd).kindOf (ps.zip us) fun _=>none) (NO (s.heap.objs.size+1) scope.names []) (bindC (envOfC qual scope s.heap.objs.size f cd).kindOf (ps.zip us) fun _=>none) s1):
    aH (tK CX P w K mg base N qual scope f cd A outer s H E) [] (gM N vs) H s1:=by
  have hpl:ps.length≤N.length:=by have:=congrArg List.length S.pre;rw [List.length_take] at this;lia
  obtain⟨h1,tk,rfl,hk⟩:=x.done
  have noA:∀b:xM,b∉(tK CX P w K mg base N qual scope f cd A outer s H E).ex:=fun b z=>absurd (show b∈([]:List xM) from z) (by simp)
  refine⟨⟨e0.mod,S.kind,rfl,rfl,NA _,fun y z c h1 h2=>?_,fun y hy=>?_,fun y c _ h=>?_,fun _=>hd,Around.frames_deeper e0.frames,.inr ⟨rfl,rfl⟩,fun b z=>absurd z (noA b),e0.bs,e0.bsz,fun b _ _=>noA b,fun b z=>absurd z (noA b),e0.funs,e0.frf⟩,
    rfl,e0.bare,Un.kept hk,⟨_,x.toInCall.ns,fun i y v h1 h2 h3=>?_⟩,fun y c h=>⟨_,x.cell y c h⟩,e0.hok.fresh (NA _),fun y c h=>?_,fun p hp=>absurd (show p∈([]:List (xM × Obj)) from hp) (by simp),e0.hok.kept hk,?_⟩
  · exact name_of_addr x.apart (Qg h1) (Qg h2)
  · have hy:scope.names.lookup y=some .cell∨scope.names.lookup y=some .free:=hy
    rcases hy with hy | hy
    · exact tH hy
    · exact absurd rfl (S.nofree _ (Qg hy))
  · exact Pw (x.above y c (Qg h))
  · have hi:i < vs.length:=by
      unfold gM at h2
      by_cases hi:i < vs.length
      · exact hi
      · rw [List.getElem?_append_right (by simpa using hi)] at h2
        rw [QV] at h2
        split at h2<;>cases h2
    have ha:vs[i]?=some v:=by
      unfold gM at h2
      rw [OV (by simpa using hi),NT] at h2
      cases e:vs[i]? with
      | none=>rw [e] at h2;cases h2
      | some a=>rw [e] at h2;cases h2;rfl
    obtain⟨u,hu,rv⟩:=r.get ha
    have hp:ps[i]?=some y:=by
      rw [←S.pre,List.getElem?_take_of_lt (by lia)];exact h1
    have ndP:ps.Nodup:=by rw [←S.pre];exact S.nd.sublist (List.take_sublist _ _)
    refine⟨u,rv,?_⟩
    rcases S.par y (Nb hp) with k | k
    · exact .inl ⟨k,qq ndP hp hu k⟩
    · obtain⟨c,e⟩:=tH (n:=s.heap.objs.size+1) k
      refine .inr ⟨.inl k,c,e,?_⟩
      have q:=x.cell y c e
      rw [qo ndP hp hu (by show scope.names.lookup y≠_;rw [k];decide)] at q
      exact q
  · exact e0.hok.fresh (Pw (x.above y c (Qg h)))
  · unfold gM
    show _=N.length
    rw [Qh,NN,QW]
    lia
theorem GH{CX:sZ}{P:Nl}{w:Nj}{K:Ng}{mg:Str→Option Kz}{base:Nk}{k:Nat}{f:xM}{name qual:Str}{params:Arguments}{body:List Nm}{scope:NL}{dV kV doc pm cdv ct oc:Kz}{an od:Option xM}
    {osl:Array (Option Kz)}{N ps:List Str}{sp:Sp}(lk:K.lookup f=some ⟨oc,od,.func (OA name qual params body scope dV kV doc pm an cdv ct),osl⟩)(hcd:Qi K cdv qual=true)(S:au N ps scope)
    (len:∀vs H Q E,sp vs H Q E→vs.length=ps.length)
    (hbody:∀(A:Nn) (outer:List Env) (s:Nc) (H:Hp) (vs:List V) (Q:VK) (E:XK),bK k (A.deeper (envOfC qual scope s.heap.objs.size f cdv))→sp vs H Q E→
      ∃t,jh (tK CX P w K mg base N qual scope f cdv A outer s H E) body t∧t {nx:=fun _ H'=>Q .non H',rt:=Q} (gM N vs) H):
    aG P w K mg base CX (k+1) f (OA name qual params body scope dV kV doc pm an cdv ct) ps sp:=by
  refine⟨len,fun A outer s H args us vs Q E hr e0 hb r hsp=>?_⟩
  have hl:=len _ _ _ _ hsp
  have KX:K.In s.heap:=e0.mod.kin.keeps fun b o e=>(e0.bs b o e).1
  have lim:s.heap.NoLimit:=e0.mod.nolimit.keeps fun b o e=>(e0.bs b o e).1
  have hkind:∀y∈ps.zip us,scope.names.lookup y.1=some .local∨(scope.names.lookup y.1=some .cell∧((NO (s.heap.objs.size+1) scope.names []).lookup y.1).isSome=true):=fun⟨n,v⟩ hy=>by
    rcases S.par n (List.of_mem_zip hy).1 with q | q
    · exact .inl q
    · exact .inr ⟨q,PySem.W.cellsFrom_some _ _ _ (.inl q)⟩
  refine codeAny_call_function hr.depth (KX _ _ lk) rfl S.co S.gen rfl (PySem.W.codeRec_of KX hcd) (hb _ _ _ _ ?_)
  refine wpAny_newFunctionEnv_cells S.kind hkind fun env he s1 x=>?_
  subst he
  refine⟨lim.keeps x.toInCall.keep,codeAny_func ?_⟩
  obtain⟨t,ht,hq⟩:=hbody A outer s H vs Q E (hr.deeper _) hsp
  have I:aH (tK CX P w K mg base N qual scope f cdv A outer s H E) [] (gM N vs) H s1:=xI S hr.hd e0 hl r x
  refine OB (ht [] s1 (gM N vs) H _ I hq) (fun fl s' hs=>?_) fun e s' hs=>hs
  have fin:∀{σ':St} {H':Hp} {v:V} {u:Kz},aH (tK CX P w K mg base N qual scope f cdv A outer s H E) [] σ' H' s'→bE v u→Q v H'→CE outer P w H s Q u s':=
    fun{σ' H' v u} J rv q=>⟨v,H',J.os,J.bare,J.base,J.hok,rv,q⟩
  cases fl with
  | ret u=>
    obtain⟨v,σ',H',J,rv,q⟩:=hs
    exact fin J rv q
  | next=>
    obtain⟨σ',H',J,q⟩:=hs
    exact fin (v:=V.non) (u:=Value.none) J rfl q
  | brk=>
    obtain⟨_,_,_,q⟩:=hs
    exact OC q
  | cont=>
    obtain⟨_,_,_,q⟩:=hs
    exact OC q
section
variable{X:Cx}{x:Str}{p pos:Pos}{e:Nh}{es:List Nh}{t:TA}{id T:String}{r:List V→Hp→VK→Prop}
def IA(r:List V→Hp→VK→Prop)(t:TA):TE:=fun σ H Q=>t σ H fun vs H1=>r vs H1 Q
theorem oZ(hc:cQ X (.builtin id) r)(hg:Gl X x)(hm:X.mg x=none)(hv:ON x=some (.builtin id))(ha:PA X (e::es) t)(hn:x≠"__name__":=by decide)(hdb:(x==("__debug__":Str))=false:=by decide)
    (he:Nq (e::es) X.env=(false,Nt e X.env)::Nq es X.env:=by rfl)(hpl:(ND pos (Nq es X.env)).any (·.1)=false:=by rfl):PE X (.Call (.Name x p) (e::es) [] pos) (IA r t):=by
  intro pins s σ H Q I h
  refine Qf (r6 I hg hm hv ?_ hn hdb)
  exact PyProof.Rows.callWith_builtin1 (cA (ha pos pins s σ H _ I h) fun us s1 ⟨vs,H1,I1,r1,q1⟩=>hc pins s1 σ H1 vs us Q I1 r1 q1) he hpl
theorem qN(hc:cQ X (.type T) r)(hg:Gl X x)(hm:X.mg x=none)(hv:ON x=some (.type T))(ha:PA X (e::es) t)(hn:x≠"__name__":=by decide)(hdb:(x==("__debug__":Str))=false:=by decide)
    (he:Nq (e::es) X.env=(false,Nt e X.env)::Nq es X.env:=by rfl)(hpl:(ND pos (Nq es X.env)).any (·.1)=false:=by rfl):PE X (.Call (.Name x p) (e::es) [] pos) (IA r t):=by
  intro pins s σ H Q I h
  refine Qf (r6 I hg hm hv ?_ hn hdb)
  exact Rq (cA (ha pos pins s σ H _ I h) fun us s1 ⟨vs,H1,I1,r1,q1⟩=>hc pins s1 σ H1 vs us Q I1 r1 q1) he hpl
end
end L2
namespace HT
open PySem PyProof.Rows
section
open PySem.SeqAt
open PySem.AutoSeq1 (wpAny_loadPart')
open PySem.MeetsSeq PySem.MeetsSeq2 PySem.MeetsSeq3
end
section
variable{prog:Nl}{w:Nj}{A:Nn}{E:Kz→Nc→Prop}{s:Nc}
theorem cat_tup{t b:xM}{vs ws:List Kz}{Q:Kz→Nc→Prop}(ht:IsTup s.heap t vs.toArray)(hb:IsTup s.heap b ws.toArray)(hv:vs≠[])
    (h1:ws=[]→Q (.ref t) s)(h2:ws≠[]→Q (.ref s.heap.objs.size) {s with heap:=s.heap.push {cls:=.type "tuple",data:=.seq (vs++ws).toArray}})
    (hsz:vs.length+ws.length≤Ny):Np (Nr prog w) A (NZ .Add (.ref t) (.ref b)) Q E s:=by
  obtain⟨⟨cls,dd,data,sl⟩,ho,hc,n,hd⟩:=id ht
  obtain⟨⟨cls2,dd2,data2,sl2⟩,ho2,hc2,n2,hd2⟩:=id hb
  simp only at hc hd hc2 hd2
  subst hc hd hc2 hd2
  have e:vs.toArray++ws.toArray=(vs++ws).toArray:=by simp
  by_cases hw:ws=[]
  · exact concat_meets ⟨_,ho,rfl⟩ ⟨_,ho2,rfl⟩ noFill_tuple_add seq_tuple_add PySem.F.slot_tuple_add PySem.F.entry_tuple_add (PySem.F.args_tuple_add_2 _ _)
      (tuple_addW1 t b vs.toArray ws.toArray n n2 dd dd2 sl sl2 (by simpa using hv) (by simp [hw])) ⟨ho,ho2,h1 hw⟩
  · refine concat_meets ⟨_,ho,rfl⟩ ⟨_,ho2,rfl⟩ noFill_tuple_add seq_tuple_add PySem.F.slot_tuple_add PySem.F.entry_tuple_add (PySem.F.args_tuple_add_2 _ _)
      (tuple_addW2 t b vs.toArray ws.toArray n n2 dd dd2 sl sl2 (by simpa using hv) (by simpa using hw) (by rw [NI,NI];exact hsz)) ⟨ho,ho2,?_⟩
    rw [e]
    exact h2 hw
def sIx(n d:Nat):Option Int→Nat
  | none=>d
  | some v=>if v < 0 then(v+(n:Int)).toNat else min v.toNat n
theorem FR(n d:Nat)(hd:d≤n)(o:Option Int):sIx n d o≤n:=by
  cases o with
  | none=>exact hd
  | some v=>
    show(if v < 0 then(v+(n:Int)).toNat else min v.toNat n)≤n
    by_cases hv:v < 0
    · rw [if_pos hv];lia
    · rw [if_neg hv];exact Nat.min_le_right _ _
theorem wn(v:Int)(n d:Nat):(if v < 0 then max (v+(n:Int)) 0 else min v (n:Int))=((sIx n d (some v):Nat):Int):=by
  show(if v < 0 then max (v+(n:Int)) 0 else min v (n:Int))=(((if v < 0 then(v+(n:Int)).toNat else min v.toNat n):Nat):Int)
  by_cases hv:v < 0
  · simp only [if_pos hv];lia
  · simp only [if_neg hv];lia
theorem uY(lo hi:Option Int)(n:Nat):QX lo hi 1 (n:Int)=(((sIx n 0 lo:Nat):Int),((sIx n n hi:Nat):Int)):=by
  have h1:¬((1:Int) < 0):=by lia
  unfold QX
  simp only [h1,if_false]
  refine Prod.ext ?_ ?_
  · cases lo with
    | none=>rfl
    | some v=>exact wn v n 0
  · cases hi with
    | none=>rfl
    | some v=>exact wn v n n
theorem vJ(i j:Nat):Qx (i:Int) (j:Int) 1=j - i:=by
  unfold Qx
  have h1:(1:Int) > 0:=by lia
  simp only [h1,if_true,Int.ediv_one]
  split<;>lia
theorem pN{v:Kz}{o:Option Int}{Q:Option Int→Nc→Prop}(p:IsPart v o)(h:Q o s):Np (Nr prog w) A (Builtin.Slice.slicePartIndex v) Q E s:=by
  cases p with
  | none=>exact slicePart_none h
  | int i t=>exact slicePart_int h
theorem ik{sl:xM}{vl vu:Kz}{lo hi:Option Int}{n:Nat}{Q:Int × Int × Nat→Nc→Prop}(hs:s.heap.IsSliceOf sl vl vu .none)(pl:IsPart vl lo)(pu:IsPart vu hi)
    (h:Q (((sIx n 0 lo:Nat):Int),1,sIx n n hi - sIx n 0 lo) s):Np (Nr prog w) A (Rr (.ref sl) (pure (n:Int))) Q E s:=by
  obtain⟨os,hos,hcs,hds⟩:=id hs
  unfold Rr Builtin.Slice.sliceFields
  refine Nu (Nu (wpAny_field hos hds (x:=vl) rfl (Nu (wpAny_field hos hds (x:=vu) rfl (Nu (wpAny_field hos hds (x:=.none) rfl (Nz ?_)))))))
  refine Nu (slicePart_none ?_)
  show Np _ _ (if ((1:Int)==0)=true then _ else _) _ _ s
  rw [if_neg (by decide)]
  refine Nu (pN pl (Nu (pN pu (Nu (Nz ?_)))))
  show Np _ _ (match QX lo hi 1 (n:Int) with | (lo,hi)=>pure (lo,(1:Int),Qx lo hi 1)) _ _ s
  rw [uY lo hi n]
  show Np _ _ (pure (((sIx n 0 lo:Nat):Int),(1:Int),Qx ((sIx n 0 lo:Nat):Int) ((sIx n n hi:Nat):Int) 1)) _ _ s
  rw [vJ]
  exact Nz h
theorem zR(xs:Array Kz)(i k:Nat):((Pm k).filterMap fun(m:Nat)=>xs[((i:Int)+(m:Int)*1).toNat]?).toArray=((xs.toList.drop i).take k).toArray:=by
  have e:(fun(m:Nat)=>xs[((i:Int)+(m:Int)*1).toNat]?)=fun m=>xs[i+m]?:=by
    funext m
    have:((i:Int)+(m:Int)*1).toNat=i+m:=by lia
    rw [this]
  rw [e]
  have:=pick_run xs i k
  rw [List.filterMap_map] at this
  have e2:((fun x=>xs[x]?) ∘ fun x=>i+x)=fun m=>xs[i+m]?:=rfl
  rw [e2] at this
  rw [this]
theorem getItem_tuple_cut{t sl:xM}{items:Array Kz}{vl vu:Kz}{lo hi:Option Int}{Q:Kz→Nc→Prop}(ht:IsTup s.heap t items)(hs:s.heap.IsSliceOf sl vl vu .none)(pl:IsPart vl lo)(pu:IsPart vu hi)
    (hw:¬(sIx items.size 0 lo=0∧sIx items.size items.size hi=items.size))
    (h:Q (.ref s.heap.objs.size) {s with heap:=s.heap.push {cls:=.type "tuple",data:=.seq ((items.toList.drop (sIx items.size 0 lo)).take (sIx items.size items.size hi - sIx items.size 0 lo)).toArray}})
    (hsz:items.size≤Ny):Np (Nr prog w) A (getItem (.ref t) (.ref sl)) Q E s:=by
  have htake:sizeOk (.seq ((items.toList.drop (sIx items.size 0 lo)).take (sIx items.size items.size hi - sIx items.size 0 lo)).toArray):=by
    show((items.toList.drop (sIx items.size 0 lo)).take (sIx items.size items.size hi - sIx items.size 0 lo)).toArray.size≤Ny
    rw [NI,List.length_take,List.length_drop,QS]
    lia
  have hj:sIx items.size items.size hi≤items.size:=FR _ _ (NA _) hi
  obtain⟨os,hos,hcs,hds⟩:=id hs
  have hTs:s.TypeIs (.ref sl) "slice":=⟨os,hos,hcs⟩
  unfold getItem
  try with_reducible refine wpAny_holding ?_
  first | refine Nu (Nz ?_) | skip
  refine Nu (wpAny_sequenceKey ht.typeIs (by decide) ?_)
  refine Nu (wpAny_callSpecial?_slot (name:=Ni "__getitem__") ht.typeIs PB
    (wpAny_call_entry PB ht.typeIs entry_tuple_getitem ?_ (args_tuple_getitem _ _)))
  show Np _ _ (Rt (.ref t) >>= _) _ _ s
  refine Nu (tupleItemsOf_ ht ?_)
  refine Nu (wpAny_typeOf hTs ?_)
  rw [if_pos (by decide)]
  refine Nu (ik hs pl pu ?_)
  have hno:¬((((sIx items.size 0 lo:Nat):Int)==0&&(1:Int)==1&&(sIx items.size items.size hi - sIx items.size 0 lo)==items.size)=true):=by
    intro q
    rw [Ol,Ol] at q
    have q1:((sIx items.size 0 lo:Nat):Int)=0:=eq_of_beq q.1.1
    have q2:sIx items.size items.size hi - sIx items.size 0 lo=items.size:=eq_of_beq q.2
    exact hw ⟨by lia,by lia⟩
  show Np _ _ (if (((sIx items.size 0 lo:Nat):Int)==0&&(1:Int)==1&&(sIx items.size items.size hi - sIx items.size 0 lo)==items.size)=true then _ else _) _ _ s
  rw [if_neg hno,zR]
  first
    | exact Nu (m:=PV _) (Px (Nz ⟨_,rfl,Nz h⟩) htake)
    | exact Nu (m:=PV _) (Px (Nu (Nz (Nz ⟨_,rfl,Nz h⟩))) htake)
    | exact Nu (Nu (m:=PV _) (Px (Nz (Nz ⟨_,rfl,Nz h⟩)) htake))
    | exact Nu (Nu (m:=PV _) (Px (Nz ⟨_,rfl,Nz h⟩) htake))
end
end HT
namespace L2
open PySem PySem.Spec PyProof.Rows
abbrev TO:=St→Hp→(Option Int→Hp→Prop)→Prop
def PO(X:Cx)(e:Option Nh)(t:TO):Prop:=
  ∀(pins:List (xM × Obj)) (s:Nc) (σ:St) (H:Hp) (Q:Option Int→Hp→Prop),aH X pins σ H s→t σ H Q→
    Np (Nr X.prog X.w) X.A (evalPart e X.env) (fun u s'=>∃o H',aH X pins σ H' s'∧IsPart u o∧Q o H') X.xe s
def CQ:TO:=fun _ H Q=>Q none H
def HX(t:TE):TO:=fun σ H Q=>t σ H fun x H1=>∃i,x=.int i∧Q (some i) H1
theorem oO{ns:List Int}:∀{us:List Kz},aS (ns.map V.int) us→Pd us ns:=by
  induction ns with
  | nil=>intro us r;rw [Om] at r;cases r;exact .nil
  | cons n ns ih=>
    intro us r
    rw [NP] at r
    cases r with
    | cons r1 r2=>
      obtain⟨t,e⟩:=r1
      subst e
      exact .cons n t (ih r2)
section
variable{X:Cx}{e:Nh}{te:TE}{lo hi:Option Nh}{tl th:TO}{pos p2:Pos}
theorem Cn:PO X none CQ:=by
  intro pins s σ H Q I h
  rw [evalPart_none]
  exact Nz ⟨none,H,I,.none,h⟩
theorem Co(h:PE X e te):PO X (some e) (HX te):=by
  intro pins s σ H Q I hw
  rw [evalPart_some]
  refine cA (h pins s σ H _ I hw) fun u s1 ⟨x,H1,I1,r1,q1⟩=>?_
  obtain⟨i,rfl,q⟩:=q1
  obtain⟨t,rfl⟩:=r1
  exact⟨some i,H1,I1,.int i t,q⟩
def A4(X:Cx)(r:V→Option Int→Option Int→Hp→VK→Prop):Prop:=
  ∀(pins:List (xM × Obj)) (s:Nc) (σ:St) (H:Hp) (x:V) (v vl vu:Kz) (lo hi:Option Int) (sl:xM) (Q:VK),aH X pins σ H s→bE x v→s.heap.IsSliceOf sl vl vu .none→IsPart vl lo→IsPart vu hi→r x lo hi H Q→
    ∃T id,typeLookup (.type T) "__getitem__"=pure (some (.builtin id))∧s.TypeIs v T∧Np (Nr X.prog X.w) X.A (getItem v (.ref sl)) (EP X pins σ Q) X.xe s
theorem A4.or{r r':V→Option Int→Option Int→Hp→VK→Prop}(h:A4 X r)(h':A4 X r'):A4 X (fun x lo hi H Q=>r x lo hi H Q∨r' x lo hi H Q):=by
  intro pins s σ H x v vl vu lo hi sl Q I rx hs pl pu q
  rcases q with q | q
  · exact h pins s σ H x v vl vu lo hi sl Q I rx hs pl pu q
  · exact h' pins s σ H x v vl vu lo hi sl Q I rx hs pl pu q
def Kq(r:V→Option Int→Option Int→Hp→VK→Prop)(te:TE)(tl th:TO):TE:=fun σ H Q=>te σ H fun x H1=>tl σ H1 fun l H2=>th σ H2 fun u H3=>r x l u H3 Q
theorem o5{r:V→Option Int→Option Int→Hp→VK→Prop}(hr:A4 X r)(he:PE X e te)(hl:PO X lo tl)(hu:PO X hi th):PE X (.Subscript e (.Slice lo hi none p2) pos) (Kq r te tl th):=by
  intro pins s σ H Q I h
  refine Subscript_ (cA (he pins s σ H _ I h) fun v s1 ⟨x,H1,I1,r1,q1⟩=>?_)
  refine wpAny_Slice (cA (hl pins s1 σ H1 _ I1 q1) fun vl s2 ⟨l,H2,I2,pl,q2⟩=>cA (hu pins s2 σ H2 _ I2 q2) fun vu s3 ⟨u,H3,I3,pu,q3⟩=>?_)
  rw [evalPart_none]
  refine Nz ?_
  have I4:aH X pins σ H3 {s3 with heap:=s3.heap.push {cls:=.type "slice",data:=.fields #[vl,vu,.none]}}:=I3.kept (t':=s3.toks) fun b ob q=>NS _ q
  obtain⟨T,id,hT,ht,hg⟩:=hr pins {s3 with heap:=s3.heap.push {cls:=.type "slice",data:=.fields #[vl,vu,.none]}} σ H3 x v vl vu l u s3.heap.objs.size Q I4 r1 (Heap.IsSliceOf.new ..) pl pu q3
  show Np (Nr X.prog X.w) X.A (subscriptTail e (.Slice lo hi none p2) v (.ref s3.heap.objs.size)) (EP X pins σ Q) X.xe {s3 with heap:=s3.heap.push {cls:=.type "slice",data:=.fields #[vl,vu,.none]}}
  exact tail_any (ops:=[.ref s3.heap.objs.size,v]) ht hT hg (by with_unfolding_all rfl)
def m4(xs:List V)(lo hi:Option Int):List V:=(xs.drop (HT.sIx xs.length 0 lo)).take (HT.sIx xs.length xs.length hi - HT.sIx xs.length 0 lo)
theorem mz(xs:List V)(lo hi:Option Int):(m4 xs lo hi).length≤xs.length:=by
  unfold m4
  rw [List.length_take,List.length_drop]
  lia
def HB(K:Ng):V→Option Int→Option Int→Hp→VK→Prop:=fun x lo hi H Q=>∃a xs,x=.ref a∧dW K H a xs∧
  ¬(HT.sIx xs.length 0 lo=0∧HT.sIx xs.length xs.length hi=xs.length)∧∀p,H p=none→Q (.ref p) (bw H p (.tup (m4 xs lo hi)))
theorem FU:A4 X (HB X.K):=by
  intro pins s σ H x v vl vu lo hi sl Q I rx hs pl pu h
  obtain⟨a,xs,rfl,hx,hw,q⟩:=h
  cases rx
  obtain⟨its,r,ht,hz⟩:=I.tuple hx
  have hlen:its.toArray.size=xs.length:=by rw [NI];exact r.length.symm
  refine⟨"tuple",_,PB.lookup,ht.typeIs,?_⟩
  refine HT.getItem_tuple_cut ht hs pl pu (by rw [hlen];exact hw) ?_ (by rw [hlen];exact hz)
  rw [hlen]
  refine⟨.ref s.heap.objs.size,_,I.laid (t':=s.toks) (o:=.tup (m4 xs lo hi)) (fun b ob q=>NS _ q) (NA _) ?_,rfl,q _ (I.hok.fresh (NA _))⟩
  exact⟨NR (mz xs lo hi) hz,_,(r.drop (HT.sIx xs.length 0 lo)).take (HT.sIx xs.length xs.length hi - HT.sIx xs.length 0 lo),rh.new _ _⟩
def Hu(K:Ng):R2:=fun x y H Q=>∃a b xs ys,x=.ref a∧y=.ref b∧dW K H a xs∧dW K H b ys∧xs≠[]∧xs.length+ys.length≤Ny∧
  (ys=[]→Q (.ref a) H)∧(ys≠[]→∀p,H p=none→Q (.ref p) (bw H p (.tup (xs++ys))))
theorem aS.nil_iff{xs:List V}{us:List Kz}(r:aS xs us):us=[]↔ xs=[]:=by
  cases r with
  | nil=>simp
  | cons _ _=>simp
theorem B6:gD X (NZ .Add) (Hu X.K):=by
  intro pins s σ H x y v u Q I rx ry h
  obtain⟨a,b,xs,ys,rfl,rfl,ha,hb,hx,hz,q1,q2⟩:=h
  cases rx
  cases ry
  obtain⟨its,r1,p1,_⟩:=I.tuple ha
  obtain⟨its2,r2,p2,_⟩:=I.tuple hb
  refine HT.cat_tup p1 p2 (fun z=>hx (r1.nil_iff.mp z)) (fun z=>⟨.ref a,H,I,rfl,q1 (r2.nil_iff.mp z)⟩) (fun z=>?_) (by rw [←r1.length,←r2.length];exact hz)
  refine⟨.ref s.heap.objs.size,_,I.laid (t':=s.toks) (o:=.tup (xs++ys)) (fun b ob q=>NS _ q) (NA _) ?_,rfl,q2 (fun w=>z (r2.nil_iff.mpr w)) _ (I.hok.fresh (NA _))⟩
  exact⟨by rw [Qh];exact hz,_,r1.append r2,rh.new _ _⟩
end
def GW(n:Nat)(i:Int):Option Nat:=if 0≤i then(if i < n then some i.toNat else none) else if -(n:Int)≤i then some (i+n).toNat else none
def atI{α:Type}(xs:List α)(i:Int):Option α:=(GW xs.length i).bind fun j=>xs[j]?
theorem BD{n:Nat}{i:Int}{j:Nat}(h:GW n i=some j):seqIndex? i n=some j∧j < n∧ -(n:Int)≤i∧i < n:=by
  unfold GW at h
  by_cases h0:0≤i
  · rw [if_pos h0] at h
    by_cases h1:i < n
    · rw [if_pos h1] at h
      have e:i.toNat=j:=Ox h
      exact⟨by rw [seqIndex_of h0 h1,e],by lia,by lia,h1⟩
    · rw [if_neg h1] at h;cases h
  · rw [if_neg h0] at h
    by_cases h1: -(n:Int)≤i
    · rw [if_pos h1] at h
      have e:(i+n).toNat=j:=Ox h
      exact⟨by rw [seqIndex_neg (by lia) h1,e],by lia,h1,by lia⟩
    · rw [if_neg h1] at h;cases h
theorem v0{α:Type}{xs:List α}{i:Int}{v:α}(h:atI xs i=some v):∃j,seqIndex? i xs.length=some j∧xs[j]?=some v∧j < xs.length∧ -(xs.length:Int)≤i∧i < xs.length:=by
  unfold atI at h
  cases e:GW xs.length i with
  | none=>rw [e] at h;cases h
  | some j=>
    rw [e] at h
    obtain⟨h1,h2,h3,h4⟩:=BD e
    exact⟨j,h1,h,h2,h3,h4⟩
def nA(b:Nh):Prop:=∀o i,subscripted b false o i=operate [o,i] (getItem o i)
def Bh(X:Cx)(r:R2):Prop:=
  ∀(value slice:Nh) (pins:List (xM × Obj)) (s:Nc) (σ:St) (H:Hp) (x y:V) (v u:Kz) (Q:VK),aH X pins σ H s→bE x v→bE y u→r x y H Q→
    subscripted slice false v u=operate [v,u] (getItem v u)→Np (Nr X.prog X.w) X.A (subscriptTail value slice v u) (EP X pins σ Q) X.xe s
def DR(X:Cx)(id:String)(r:V→List V→Hp→VK→Prop):Prop:=
  ∀(pins:List (xM × Obj)) (s:Nc) (σ:St) (H:Hp) (x:V) (xs:List V) (v:Kz) (us:List Kz) (Q:VK),aH X pins σ H s→bE x v→aS xs us→r x xs H Q→
    Np (Nr X.prog X.w) X.A (call (.builtin id) (v::us)) (EP X pins σ Q) X.xe s
section
variable{X:Cx}{a b:Nh}{ta tb:TE}{pos:Pos}
theorem Bh.or{r r':R2}(h:Bh X r)(h':Bh X r'):Bh X (fun x y H Q=>r x y H Q∨r' x y H Q):=by
  intro value slice pins s σ H x y v u Q I rx ry q hs
  rcases q with q | q
  · exact h value slice pins s σ H x y v u Q I rx ry q hs
  · exact h' value slice pins s σ H x y v u Q I rx ry q hs
theorem Ds{r:R2}(hr:Bh X r)(ha:PE X a ta)(hb:PE X b tb)(hs:nA b):PE X (.Subscript a b pos) (Gs r ta tb):=by
  intro pins s σ H Q I h
  exact Subscript_ (DX ha hb I h fun v u s2 x y H2 I2 rx ry q=>hr a b pins s2 σ H2 x y v u Q I2 rx ry q (hs _ _))
def Hx(K:Ng):R2:=fun x y H Q=>∃p xs i v,x=.ref p∧y=.int i∧iu K H p xs∧atI xs i=some v∧Q v H
def Hy(K:Ng):R2:=fun x y H Q=>∃p xs i v,x=.ref p∧y=.int i∧dW K H p xs∧atI xs i=some v∧Q v H
theorem BE:Bh X (Hx X.K):=by
  intro value slice pins s σ H x y v u Q I rx ry h hs
  obtain⟨p,xs,i,z,rfl,rfl,hq,he,q⟩:=h
  cases rx
  obtain⟨t,rfl⟩:=ry
  obtain⟨its,r,pl,hz⟩:=I.list hq
  obtain⟨j,h1,h2,h3,h4,h5⟩:=v0 he
  obtain⟨w,ew,rw'⟩:=r.get h2
  have hl:=r.length
  have hn:=vt
  have fin:EP X pins σ Q w s:=⟨z,H,I,rw',q⟩
  by_cases h0:0≤i
  · have hj:i.toNat=j:=by
      rw [seqIndex_of h0 h5] at h1
      exact Ox h1
    exact item_listR pl.isList h0 (by lia) (by rw [hj];simpa using ew) fin hs
  · have hj:(i+(its.toArray.size:Int)).toNat=j:=by
      rw [seqIndex_neg (by lia) h4] at h1
      rw [NI,←hl]
      exact Ox h1
    exact subscriptTail_builtinR (x:=w) pl.isList.typeIs slot_list_getitem.lookup
      (wpAny_getItem_list_neg (Q:=fun r s'=>r=w∧EP X pins σ Q r s') pl.isList (by lia) (by rw [NI]<;>lia) (by lia) (by rw [hj];simpa using ew) ⟨rfl,fin⟩) hs
theorem Ee:Bh X (Hy X.K):=by
  intro value slice pins s σ H x y v u Q I rx ry h hs
  obtain⟨p,xs,i,z,rfl,rfl,hq,he,q⟩:=h
  cases rx
  obtain⟨t,rfl⟩:=ry
  obtain⟨its,r,pl,hz⟩:=I.tuple hq
  obtain⟨j,h1,h2,h3,h4,h5⟩:=v0 he
  obtain⟨w,ew,rw'⟩:=r.get h2
  have hl:=r.length
  have hn:=vt
  have fin:EP X pins σ Q w s:=⟨z,H,I,rw',q⟩
  exact subscriptTail_builtinR (x:=w) pl.typeIs PB.lookup
    (getItem_tuple (j:=j) (Q:=fun r s'=>r=w∧EP X pins σ Q r s') pl (by lia) (by lia) (by rw [NI,←hl];exact h1) (by simpa using ew) ⟨rfl,fin⟩) hs
theorem sO(lo hi:Option Int)(n:Nat):(PD lo hi none n).1=((HT.sIx n 0 lo:Nat):Int)∧(PD lo hi none n).2.1=((HT.sIx n n hi:Nat):Int)∧(PD lo hi none n).2.2=1:=by
  refine⟨?_,?_,rfl⟩
  · cases lo with
    | none=>simp [PD,HT.sIx]
    | some i=>
      simp only [PD,HT.sIx,Option.getD_none,show(1:Int) > 0 by decide,if_true]
      by_cases h:i < 0
      · simp only [h,if_true]<;>lia
      · simp only [h,if_false]<;>lia
  · cases hi with
    | none=>simp [PD,HT.sIx]
    | some i=>
      simp only [PD,HT.sIx,Option.getD_none,show(1:Int) > 0 by decide,if_true]
      by_cases h:i < 0
      · simp only [h,if_true]<;>lia
      · simp only [h,if_false]<;>lia
theorem qh(its:List Kz)(lo hi:Option Int):slicePick its.toArray lo hi none=((its.drop (HT.sIx its.length 0 lo)).take (HT.sIx its.length its.length hi - HT.sIx its.length 0 lo)).toArray:=by
  obtain⟨h1,h2,h3⟩:=sO lo hi its.toArray.size
  unfold slicePick
  rw [h1,h2,h3]
  simp only [sliceRange_one,pick_run,NI]<;>rfl
def HA(K:Ng):V→Option Int→Option Int→Hp→VK→Prop:=fun x lo hi H Q=>∃a xs,x=.ref a∧iu K H a xs∧∀p,H p=none→Q (.ref p) (bw H p (.lst (m4 xs lo hi)))
theorem CK:A4 X (HA X.K):=by
  intro pins s σ H x v vl vu lo hi sl Q I rx hs pl pu h
  obtain⟨a,xs,rfl,hx,q⟩:=h
  cases rx
  obtain⟨its,r,ht,hz⟩:=I.list hx
  have hlen:=r.length
  refine⟨"list",_,slot_list_getitem.lookup,ht.isList.typeIs,?_⟩
  refine wpAny_getItem_list_slice ht.isList hs pl pu .none (by simp) ?_ (by rw [NI]<;>lia)
  rw [qh,←hlen]
  refine⟨.ref s.heap.objs.size,_,I.laid (t':=s.toks) (o:=.lst (m4 xs lo hi)) (fun b ob q=>NS _ q) (NA _) ?_,rfl,q _ (I.hok.fresh (NA _))⟩
  exact⟨NR (mz xs lo hi) hz,_,0,(r.drop (HT.sIx xs.length 0 lo)).take (HT.sIx xs.length xs.length hi - HT.sIx xs.length 0 lo),Oo _ rfl⟩
theorem rC:cQ X (.builtin "len") (fun xs H Q=>∃p ys,xs=[.ref p]∧(iu X.K H p ys∨dW X.K H p ys)∧Q (.int ys.length) H):=by
  intro pins s σ H xs us Q I r h
  obtain⟨p,ys,rfl,hq,q⟩:=h
  obtain⟨u,rfl,rx⟩:=rg r
  cases rx
  have hn:=vt
  rcases hq with hq | hq
  · obtain⟨its,r',pl,hz⟩:=I.list hq
    have hlen:=r'.length
    exact Calls.call_len_list pl.isList (by simp only [NI]<;>lia) ⟨.int ys.length,H,I.tok _,⟨s.toks+1,by rw [NI,hlen]⟩,q⟩
  · obtain⟨its,r',pl,hz⟩:=I.tuple hq
    have hlen:=r'.length
    exact len_tuple pl (by simp only [NI]<;>lia) ⟨.int ys.length,H,I.tok _,⟨s.toks+1,by rw [NI,hlen]⟩,q⟩
theorem rD:cQ X (.type "list") (fun xs H Q=>∃p ys,xs=[.ref p]∧(iu X.K H p ys∨dW X.K H p ys)∧∀l,H l=none→Q (.ref l) (bw H l (.lst ys))):=by
  intro pins s σ H xs us Q I r h
  obtain⟨p,ys,rfl,hq,q⟩:=h
  obtain⟨u,rfl,rx⟩:=rg r
  cases rx
  have fin:∀(its:List Kz),aS ys its→ys.length≤Ny→∀(h':Nk) (c':Nat),(∀b o',s.heap.get? b=some o'→h'.get? b=some o')→
      h'.get? s.heap.objs.size=some {cls:=.type "list",dict:=none,data:=.seq its.toArray c',slots:=#[]}→EP X pins σ Q (.ref s.heap.objs.size) {s with heap:=h'}:=fun its r' hz h' c' kp e=>
    ⟨.ref s.heap.objs.size,_,I.laid (t':=s.toks) kp (NA _) (show eZ X.prog X.w _ h' _ (.lst ys) from⟨hz,its,c',r',e⟩),rfl,q _ (I.hok.fresh (NA _))⟩
  rcases hq with hq | hq
  · obtain⟨its,r',pl,hz⟩:=I.list hq
    have hlen:=r'.length
    obtain⟨o,ho,hc,n,hd⟩:=pl.isList
    exact call_list_seq p (.inl rfl) ho hc hd (fun h' c' kp e=>fin its r' hz h' c' kp e) (by simp only [NI]<;>lia)
  · obtain⟨its,r',pl,hz⟩:=I.tuple hq
    have hlen:=r'.length
    obtain⟨o,ho,hc,n,hd⟩:=pl
    exact call_list_seq p (.inr rfl) ho hc hd (fun h' c' kp e=>fin its r' hz h' c' kp e) (by simp only [NI]<;>lia)
theorem p6:cQ X (.type "tuple") (fun xs H Q=>∃p ys,xs=[.ref p]∧((iu X.K H p ys∧∀l,H l=none→Q (.ref l) (bw H l (.tup ys)))∨(dW X.K H p ys∧Q (.ref p) H))):=by
  intro pins s σ H xs us Q I r h
  obtain⟨p,ys,rfl,h⟩:=h
  obtain⟨u,rfl,rx⟩:=rg r
  cases rx
  rcases h with ⟨hq,q⟩ | ⟨hq,q⟩
  · obtain⟨its,r',pl,hz⟩:=I.list hq
    have hlen:=r'.length
    refine call_tuple_list pl.isList (fun h' kp=>?_) (by simp only [NI]<;>lia)
    have I1:aH X pins σ H {s with heap:=h'}:=I.kept (t':=s.toks) kp
    have I2:aH X pins σ (bw H h'.objs.size (.tup ys)) {s with heap:=h'.push {cls:=.type "tuple",data:=.seq its.toArray}}:=
      I1.laid (t':=s.toks) (fun b o e=>NS _ e) (NA _) (show eZ X.prog X.w _ _ _ (.tup ys) from⟨hz,its,r',rh.new _ _⟩)
    exact⟨.ref h'.objs.size,_,I2,rfl,q _ (I1.hok.fresh (NA _))⟩
  · obtain⟨its,r',pl,hz⟩:=I.tuple hq
    exact call_tuple_same pl ⟨.ref p,H,I,rfl,q⟩
def JC(K:Ng)(T:String)(x:V)(H:Hp):Prop:=match x with
  | .str _=>T="str"
  | .int _=>T="int"
  | .ref p=>(T="list"∧∃xs,iu K H p xs)∨(T="tuple"∧∃o,K.lookup p=some o∧o.cls=.type "tuple"∧o.dict=none)∨
      (T="dict"∧((∃kvs,H p=some (.dK kvs))∨∃kvs,H p=some (.dT kvs)))∨(T="set"∧∃S n,H p=some (.set S n))
  | _=>False
theorem AV{pins:List (xM × Obj)}{σ:St}{H:Hp}{s:Nc}{T:String}{x:V}{v:Kz}(I:aH X pins σ H s)(r:bE x v)(ty:JC X.K T x H):
    s.TypeIs v T∧∀a,v=.ref a→∃ob,s.heap.get? a=some ob∧ob.dict=none:=by
  cases x with
  | str z=>
    obtain⟨t,rfl⟩:=r
    cases (show T="str" from ty)
    exact⟨typeIs_str s z t,fun _ e=>nomatch e⟩
  | int i=>
    obtain⟨t,rfl⟩:=r
    cases (show T="int" from ty)
    exact⟨Qj s i t,fun _ e=>nomatch e⟩
  | ref p=>
    cases r
    rcases ty with ⟨rfl,xs,hq⟩ | ⟨rfl,o,hk,hc,hd⟩ | ⟨rfl,hk⟩ | ⟨rfl,S,n,hk⟩
    · obtain⟨its,_,pl,_⟩:=I.list hq
      refine⟨pl.isList.typeIs,fun a e=>?_⟩
      cases e
      obtain⟨o,n,e,c,hd,_⟩:=pl
      exact⟨o,e,hd⟩
    · refine⟨⟨o,I.kIn p o hk,hc⟩,fun a e=>?_⟩
      cases e
      exact⟨o,I.kIn _ o hk,hd⟩
    · have z:∃o,s.heap.get? p=some o∧o.ExactDict:=by
        rcases hk with ⟨kvs,hk⟩ | ⟨kvs,hk⟩
        · obtain⟨_,_,_,_,o,_,_,e,ex,_⟩:=I.hok p _ hk
          exact⟨o,e,ex⟩
        · obtain⟨_,_,_,_,o,_,_,e,ex,_⟩:=I.hok p _ hk
          exact⟨o,e,ex⟩
      obtain⟨o,e,ex⟩:=z
      refine⟨⟨o,e,ex.1⟩,fun a e2=>?_⟩
      cases e2
      exact⟨o,e,ex.2.1⟩
    · obtain⟨o,_,_,_,e,ex,_⟩:=I.hok p _ hk
      refine⟨⟨o,e,ex.1⟩,fun a e2=>?_⟩
      cases e2
      exact⟨o,e,ex.2.1⟩
  | _=>exact OC ty
def Jr(K:Ng)(T:String)(r:V→List V→Hp→VK→Prop)(to:TE):TE:=fun σ H Q=>to σ H fun x H1=>JC K T x H1∧r x [] H1 Q
def JT(K:Ng)(T:String)(r:V→List V→Hp→VK→Prop)(to:TE)(t:TA):TE:=fun σ H Q=>to σ H fun x H1=>JC K T x H1∧t σ H1 fun xs H2=>r x xs H2 Q
variable{o e:Nh}{es:List Nh}{to:TE}{t:TA}{name:Str}{apos cpos:Pos}{T id:String}{r:V→List V→Hp→VK→Prop}
theorem zL(pa:PlainAttrs T)(slot:Slot T name id)(hty:typeOf (.builtin id)=pure (.type "method_descriptor"))(hm:DR X id r)(ho:PE X o to)
    (hbase:Oy o name X.env (Nt o X.env)=Nt o X.env:=by rfl)(hline:(apos.endLine==cpos.line)=true:=by rfl):PE X (.Call (.Attribute o name apos) [] [] cpos) (Jr X.K T r to):=by
  intro pins s σ H Q I h
  refine wpAny_Call_method0_late hbase hline (cA (ho pins s σ H _ I h) fun v s1 ⟨x,H1,I1,r1,ty,q1⟩=>?_)
  obtain⟨h1,h2⟩:=AV I1 r1 ty
  exact⟨T,id,pa,slot,hty,h1,h2,Calls.callWith_builtin rfl (PySem.evalArgs_none (hm pins s1 σ H1 x [] v [] Q I1 r1 .nil q1))⟩
theorem zK(pa:PlainAttrs T)(slot:Slot T name id)(hty:typeOf (.builtin id)=pure (.type "method_descriptor"))(hm:DR X id r)(ho:PE X o to)(ha:PA X (e::es) t)
    (hbase:Oy o name X.env (Nt o X.env)=Nt o X.env:=by rfl)
    (hfew:((ND cpos (Nq (e::es) X.env)).all (fun x=> !x.1)&&(OT cpos (OU [] X.env)).all (fun x=>x.1.isSome)
      &&decide ((e::es).length+([]:List Oi).length+(if ([]:List Oi).isEmpty then 0 else 1) < 30))=true:=by rfl)
    (hline:(apos.endLine==cpos.line)=true:=by rfl)(hs:Nq (e::es) X.env=(false,Nt e X.env)::Nq es X.env:=by rfl)(hplain:(ND cpos (Nq es X.env)).any (·.1)=false:=by rfl):
    PE X (.Call (.Attribute o name apos) (e::es) [] cpos) (JT X.K T r to t):=by
  intro pins s σ H Q I h
  refine wpAny_Call_method_late hbase hfew hline rfl (cA (ho pins s σ H _ I h) fun v s1 ⟨x,H1,I1,r1,ty,q1⟩=>?_)
  obtain⟨h1,h2⟩:=AV I1 r1 ty
  refine⟨T,id,pa,slot,hty,h1,h2,?_⟩
  have hA:=ha cpos pins s1 σ H1 _ I1 q1
  rw [hs] at hA ⊢
  refine Calls.callWith_builtin (by show(false || (ND cpos (Nq es X.env)).any (·.1))=false;rw [hplain]<;>rfl) (Calls.evalArgs_plain ?_)
  exact cA hA fun us s2 ⟨vs,H2,I2,r2,q2⟩=>hm pins s2 σ H2 x vs v us Q I2 r1 r2 q2
end
def Im(X:Cx)(id:String)(r:V→List V→Hp→VK→Prop):Prop:=
  ∀(pins:List (xM × Obj)) (s:Nc) (σ:St) (H:Hp) (x:V) (xs:List V) (v:Kz) (us:List Kz) (Q:VK),aH X pins σ H s→bE x v→aS xs us→r x xs H Q→
    Np (Nr X.prog X.w) X.A (call (.builtin id) (v::us)) (EP X pins σ Q) X.xe s
theorem aS.one:∀{x:V} {us:List Kz},aS [x] us→∃u,us=[u]∧bE x u
  | _,_,.cons r .nil=>⟨_,rfl,r⟩
theorem aS.zero:∀{us:List Kz},aS [] us→us=[]
  | _,.nil=>rfl
theorem aS.dropLast{xs:List V}{us:List Kz}(h:aS xs us):aS xs.dropLast us.dropLast:=by
  induction h with
  | nil=>exact .nil
  | cons r t ih=>
    cases t with
    | nil=>exact .nil
    | cons q t'=>exact .cons r ih
theorem aS.eraseIdx:∀{xs:List V} {us:List Kz} (i:Nat),aS xs us→aS (xs.eraseIdx i) (us.eraseIdx i)
  | _,_,_,.nil=>.nil
  | _,_,0,.cons _ t=>t
  | _,_,i+1,.cons r t=>.cons r (aS.eraseIdx i t)
theorem aS.rep{xs:List V}{us:List Kz}(h:aS xs us):∀k:Nat,aS (Nv k xs).flatten (Nv k us).flatten
  | 0=>.nil
  | k+1=>by
    rw [Pq,Pq,Qy,Qy]
    exact aS.append h (aS.rep h k)
theorem vd{α:Type}(l:List α):l.eraseIdx (l.length - 1)=l.dropLast:=by
  induction l with
  | nil=>rfl
  | cons a r ih=>
    cases r with
    | nil=>rfl
    | cons b r=>
      have e:(a::b::r).length - 1=((b::r).length - 1)+1:=by
        have h1:(a::b::r).length=r.length+2:=rfl
        have h2:(b::r).length=r.length+1:=rfl
        lia
      rw [e,List.eraseIdx_cons_succ,ih]
      all_goals rfl
theorem qG{α:Type}:∀(l:List α) (i:Nat),(l.eraseIdx i).length≤l.length
  | [],_=>NA _
  | _::_,0=>Nat.le_succ _
  | _::r,i+1=>Nat.succ_le_succ (qG r i)
theorem qz(its:List Kz):∀(k:Nat) (acc:List Kz),
    PX (fun x1 x2=>x1++x2) acc.toArray (Nv k its.toArray)=(acc++(Nv k its).flatten).toArray
  | 0,acc=>by simp
  | k+1,acc=>by
    have e:acc.toArray++its.toArray=(acc++its).toArray:=by simp
    have e2:(acc++its)++(Nv k its).flatten=acc++(Nv (k+1) its).flatten:=by
      rw [Pq,Qy,List.append_assoc]
    rw [←e2,←qz its k (acc++its),←e,Pq,List.foldl_cons]
section
variable{X:Cx}{pins:List (xM × Obj)}{σ:St}{H:Hp}{s:Nc}{l b:xM}{xs ys zs:List V}
theorem aH.lset{its its':List Kz}{n:Nat}{f:Array Kz→Array Kz}{t':Nat}(I:aH X pins σ H s)(hH:H l=some (.lst xs))
    (e:s.heap.get? l=some {cls:=.type "list",data:=.seq its.toArray n})(hf:f its.toArray=its'.toArray)(hv:aS ys its')(hz:ys.length≤Ny):
    aH X pins σ (bw H l (.lst ys)) {s with heap:=s.heap.update l (PF f),toks:=t'}:=by
  have q:=PySem.IsL.update e f
  rw [hf] at q
  refine I.write (x:=l) (e:=l) (by rw [hH];exact trivial) (.inl rfl) (fun b' u hb hu=>(Heap.get?_update_other s.heap (PF f) (NJ hb)).trans hu) ⟨_,q⟩ ?_
  exact⟨hz,its',_,hv,q⟩
theorem aH.lnew{its:List Kz}{t':Nat}(I:aH X pins σ H s)(hv:aS ys its)(hz:ys.length≤Ny):
    aH X pins σ (bw H s.heap.objs.size (.lst ys)) {s with heap:=s.heap.push {cls:=.type "list",data:=.seq its.toArray},toks:=t'}:=
  I.laid (fun _ _ q=>NS _ q) (NA _) ⟨hz,its,0,hv,Oo _ rfl⟩
theorem aH.fresh(I:aH X pins σ H s):H s.heap.objs.size=none:=I.hok.fresh (NA _)
theorem aH.lstM(I:aH X pins σ H s)(hH:H l=some (.lst xs)):xs.length≤Ny∧∃(its:List Kz) (n:Nat),aS xs its∧xs.length=its.length∧s.heap.get? l=some {cls:=.type "list",data:=.seq its.toArray n}:=by
  obtain⟨z,its,n,r,e⟩:=I.hok l _ hH
  exact⟨z,its,n,r,r.length,e⟩
theorem zA{n:Nat}(h:n≤Ny):QY n=false:=by
  unfold QY
  exact decide_eq_false (by lia)
end
section
variable{X:Cx}
def wM:V→List V→Hp→VK→Prop:=fun x vs H Q=>∃l xs y,x=.ref l∧vs=[y]∧H l=some (.lst xs)∧xs.length < Ny∧Q .non (bw H l (.lst (xs++[y])))
theorem qL:Im X "list.append" wM:=by
  intro pins s σ H x vs v us Q I rx rv h
  obtain⟨l,xs,y,rfl,rfl,hH,hz,q⟩:=h
  cases rx
  obtain⟨u,rfl,ru⟩:=rv.one
  obtain⟨z,its,n,r,hl,e⟩:=I.lstM hH
  refine OL F.slot_list_append ⟨_,e,rfl⟩ F.entry_list_append (F.args_list_append_2 _ _) (PySem.list_append l its.toArray n u (by rw [NI];lia)) ⟨e,?_⟩
  refine⟨.non,_,I.lset (its':=its++[u]) hH e (by simp) (r.append (.cons ru .nil)) ?_,rfl,q⟩
  rw [Qh,List.length_singleton]
  lia
def Hz:V→List V→Hp→VK→Prop:=fun x vs H Q=>∃l xs y,x=.ref l∧vs=[]∧H l=some (.lst xs)∧xs[xs.length - 1]?=some y∧Q y (bw H l (.lst xs.dropLast))
theorem EL:Im X "list.pop" Hz:=by
  intro pins s σ H x vs v us Q I rx rv h
  obtain⟨l,xs,y,rfl,rfl,hH,hy,q⟩:=h
  cases rx
  have hus:=rv.zero
  subst hus
  obtain⟨z,its,n,r,hl,e⟩:=I.lstM hH
  obtain⟨u,hu,ru⟩:=r.get hy
  have hy':its.toArray[its.toArray.size - 1]?=some u:=by
    show its.toArray[its.length - 1]?=some u
    rw [←Array.getElem?_toList,←hl]
    exact hu
  refine OL Qz ⟨_,e,rfl⟩ F.entry_list_pop (F.args_list_pop_1 _) (MeetsSeq.list_pop_last l its.toArray n u hy' (by rw [NI];lia)) ⟨e,?_⟩
  refine⟨y,_,I.lset (its':=its.dropLast) hH e ?_ r.dropLast ?_,ru,q⟩
  · show its.toArray.eraseIdxIfInBounds (its.toArray.size - 1)=its.dropLast.toArray
    rw [NI,List.eraseIdxIfInBounds_toArray,vd]
  · rw [List.length_dropLast]
    lia
def Ag:V→List V→Hp→VK→Prop:=fun x vs H Q=>∃l xs i k y,x=.ref l∧vs=[.int i]∧H l=some (.lst xs)∧ -(2 ^ 63)≤i∧i < 2 ^ 63∧seqIndex? i xs.length=some k∧xs[k]?=some y∧Q y (bw H l (.lst (xs.eraseIdx k)))
theorem zp:Im X "list.pop" Ag:=by
  intro pins s σ H x vs v us Q I rx rv h
  obtain⟨l,xs,i,k,y,rfl,rfl,hH,h1,h2,hk,hy,q⟩:=h
  cases rx
  obtain⟨u,rfl,ru⟩:=rv.one
  obtain⟨t,rfl⟩:=ru
  obtain⟨z,its,n,r,hl,e⟩:=I.lstM hH
  obtain⟨w,hw,rw'⟩:=r.get hy
  refine OL Qz ⟨_,e,rfl⟩ F.entry_list_pop (F.args_list_pop_2 _ _)
    (MeetsSeq.list_pop_at l its.toArray n i t k w (fitsIndex_both h1 h2) (by rw [NI,←hl];exact hk) (by rw [←Array.getElem?_toList];exact hw) (by rw [NI];lia)) ⟨e,?_⟩
  refine⟨y,_,I.lset (its':=its.eraseIdx k) hH e ?_ (r.eraseIdx k) ?_,rw',q⟩
  · show its.toArray.eraseIdxIfInBounds k=(its.eraseIdx k).toArray
    rw [List.eraseIdxIfInBounds_toArray]
  · have:=qG xs k
    lia
def Ae:V→List V→Hp→VK→Prop:=fun x vs H Q=>∃l xs,x=.ref l∧vs=[]∧H l=some (.lst xs)∧Q .non (bw H l (.lst []))
theorem zo:Im X "list.clear" Ae:=by
  intro pins s σ H x vs v us Q I rx rv h
  obtain⟨l,xs,rfl,rfl,hH,q⟩:=h
  cases rx
  have hus:=rv.zero
  subst hus
  obtain⟨z,its,n,r,hl,e⟩:=I.lstM hH
  refine OL F.slot_list_clear ⟨_,e,rfl⟩ F.entry_list_clear (F.args_list_clear_1 _) (AutoSeq1.list_clear_list_0 l its.toArray n (by rw [NI];lia)) ⟨e,?_⟩
  exact⟨.non,_,I.lset (its':=[]) (ys:=[]) hH e rfl .nil (OS _),rfl,q⟩
def FD:R2:=fun x y H Q=>∃l b xs zs,x=.ref l∧y=.ref b∧H l=some (.lst xs)∧H b=some (.lst zs)∧xs.length+zs.length≤Ny∧∀p,H p=none→Q (.ref p) (bw H p (.lst (xs++zs)))
theorem EY:gD X (NZ .Add) FD:=by
  intro pins s σ H x y v u Q I rx ry h
  obtain⟨l,b,xs,zs,rfl,rfl,hH,hB,hz,q⟩:=h
  cases rx
  cases ry
  obtain⟨z,its,n,r,hl,e⟩:=I.lstM hH
  obtain⟨z2,its2,n2,r2,hl2,e2⟩:=I.lstM hB
  refine PySem.P.add_list e e2 ?_ (by rw [NI,NI];lia)
  have ea:its.toArray++its2.toArray=(its++its2).toArray:=by simp
  rw [ea]
  exact⟨.ref _,_,I.lnew (t':=s.toks) (r.append r2) (by rw [Qh];lia),rfl,q _ I.fresh⟩
def FK:R2:=fun x y H Q=>∃l k xs,x=.ref l∧y=.int k∧H l=some (.lst xs)∧ -(2 ^ 63)≤k∧k < 2 ^ 63∧xs.length*k.toNat≤Ny∧
  ∀p,H p=none→Q (.ref p) (bw H p (.lst (Nv k.toNat xs).flatten))
theorem BM{α:Type}(xs:List α)(k:Nat):(Nv k xs).flatten.length=k*xs.length:=by
  induction k with
  | zero=>simp
  | succ k ih=>rw [Pq,Qy,Qh,ih,Nat.succ_mul,Nat.add_comm]
theorem E9:gD X (NZ .Mult) FK:=by
  intro pins s σ H x y v u Q I rx ry h
  obtain⟨l,k,xs,rfl,rfl,hH,h1,h2,hz,q⟩:=h
  cases rx
  obtain⟨t,rfl⟩:=ry
  obtain⟨z,its,n,r,hl,e⟩:=I.lstM hH
  have hlen:its.toArray.size*k.toNat≤Ny:=by rw [NI,←hl];exact hz
  have hcap:¬its.toArray.size*k.toNat > (2 ^ 63 - 1) / 8:=by
    have:(Ny:Nat)≤(2 ^ 63 - 1) / 8:=by decide
    lia
  have hfit:¬(!Builtin.List.listFitsIndex k)=true:=by
    rw [fitsIndex_both h1 h2]
    exact Pz
  have hlong:¬QY (its.toArray.size*k.toNat)=true:=by
    rw [zA hlen]
    exact Pz
  have hnew:PX (fun x1 x2=>x1++x2) #[] (Nv (if its.toArray.isEmpty=true then 0 else k.toNat) its.toArray)=(Nv k.toNat its).flatten.toArray:=by
    have f0:∀m:Nat,PX (fun x1 x2=>x1++x2) #[] (Nv m its.toArray)=(Nv m its).flatten.toArray:=fun m=>by
      have:=qz its m []
      rw [OQ] at this
      exact this
    rw [f0]
    cases its with
    | nil=>simp
    | cons a r'=>rw [if_neg (by simp)]
  refine wpAny_binaryOp_repeat_ref (T:="list") (U:="int") (by decide) ⟨_,e,rfl⟩ (fun s'=>Qj s' k t) noFill_list_mul F.fills_int_mul QA repeat_list F.slot_int_index.lookup
    (OL QA (Qj s k t) F.entry_int_rmul (F.args_int_rmul_2 _ _) (int___rmul___int_list k t l its.toArray n)
      ⟨e,rfl,⟨_,e,rfl⟩,OL F.slot_list_mul ⟨_,e,rfl⟩ F.entry_list_mul (F.args_list_mul_2 _ _) (AutoListH.list___mul___list_int_3 l its.toArray n k t hfit hcap hlong) ⟨e,?_⟩⟩)
  rw [hnew]
  exact⟨.ref _,_,I.lnew (t':=s.toks) (r.rep k.toNat) (by rw [BM,Nat.mul_comm];exact hz),rfl,q _ I.fresh⟩
end
section
variable{prog:Nl}{w:Nj}{A:Nn}{E:Kz→Nc→Prop}{s:Nc}
end
section
variable{X:Cx}
end
end L2
namespace Att
open PySem PySem.W PySem.Calls PyProof.Rows
theorem m6{P:Params}{h:Nk}:∀(ns:List Int) (vs:List Kz),WellAll P h vs (ns.map WData.int)→Pd vs ns:=by
  intro ns
  induction ns with
  | nil=>
    intro vs w
    rw [Om] at w
    cases w
    exact .nil
  | cons n ns ih=>
    intro vs w
    rw [NP] at w
    cases w with
    | cons a b=>
      cases a
      exact .cons _ _ (ih _ b)
theorem x9{l:OpenLaw}{n:Nat}(hn:l.most=some n){P:Params}{h:Nk}{args:List WData}{vals:List Kz}
    (hpre:l.row.toRowW.claim.pre args=true)(hwl:WellAll P h vals args):
    ∃a vs ns,vals=[Value.ref a]∧args=[WData.list (ns.map WData.int)]∧h.get? a=some {cls:=.type "list",data:=.seq vs.toArray}∧Pd vs ns∧ns.length≤n:=by
  have hsh:WShape.hasAll [] args [.list .int]=true:=(pre_splitW hpre).1
  have hc:l.pre.holds [] {args:=args}=true:=(pre_splitW hpre).2
  obtain⟨d,r,rfl,h1,h2⟩:=hasAllW_cons hsh
  obtain rfl:=hasAllW_nil h2
  obtain⟨xs,rfl,h3⟩:=hasW_list h1
  obtain⟨ns,rfl⟩:=items_int h3
  have hlen:ns.length≤n:=by
    unfold OpenLaw.pre at hc
    have h4:(WTm.not (.lt (.lit (.int (n:Int))) (.len (.arg 0)))).holds [] {args:=[.list (ns.map .int)]}=true:=by
      have h4:=(holds_andW hc).1
      rw [hn] at h4
      exact h4
    have h5:=condW_of h4 (w_not (w_lt w_lit (w_len_list (w_arg rfl))))
    rw [NN] at h5
    refine Nat.le_of_not_lt fun q=>?_
    have q':(n:Int) < ((ns.length:Nat):Int):=by lia
    first
      | (rw [decide_eq_true q'] at h5;exact absurd h5 (by decide))
      | (simp at h5;lia)
  cases hwl with
  | cons w1 w2=>
    cases w2
    cases w1 with
    | list ho hall=>exact⟨_,_,ns,rfl,rfl,ho,m6 ns _ hall,hlen⟩
theorem xY(l:OpenLaw)(args:List WData):l.row.toRowW.claim.post args (.bool true) args=true:=
  postW_of (r:=l.row.toRowW) (X:=(true==true))
    (show WShape.has [] (.bool true) .bool=true by first | rfl | decide | simp [WShape.has,WShape.arms,WShape.armsAll])
    (show(WTm.eq .res (.lit (.bool true))).value [] {args:=args,res:=some (.bool true),after:=args}=some (.bool (true==true)) from w_eq_bool (w_res rfl) w_lit) rfl
theorem attach_call{l:OpenLaw}{n:Nat}{q:Nl}{loose:List Str}{XP:(Str→Option Kz)→Nk→Prop}{YP:Nj→Nk→Prop}{d:DefRec}
    (hn:l.most=some n)(hdf:d.params.defaults=[])
    (call:∀(w:Nj) (s₀ s₁:Nc) (mg mb:Str→Option Kz) (fa:xM) (o:Obj) (pm cd doc:Kz) (a:xM) (vs:List Kz) (ns:List Int),
      Ground q loose [] XP w s₀ mg mb s₁.heap→YP w s₁.heap→
      s₁.heap.get? fa=some o→o.data=.func (docDef d.name d.params d.body d.scope pm cd doc)→s₁.heap.CodeRec cd d.name→mg d.name=some (.ref fa)→
      s₁.heap.get? a=some {cls:=.type "list",data:=.seq vs.toArray}→Pd vs ns→ns.length≤n→s₁.gens=#[]→
      codeAny (Nr l.prog w) callerA (.call (.ref fa) ⟨[.ref a],[]⟩) (fun r s'=>r=.ok (.ret (.bool true))∧OldK s₁.heap s'.heap∧s'.os=s₁.os∧AllBare s'.gens) s₁):
    WalkO q loose XP YP l.row.toRowW d [] (fun f vs=>PySem.call f vs):=by
  intro w s₀ s₁ mg mb G Y fa o pm cd doc dV kV ho hd hcd hD hmg hg args vals as hpre hlay hrd hwl hlo
  obtain rfl:dV=.none:=Dflts.none hD hdf
  obtain rfl:kV=.none:=Dflts.noKw hD
  obtain⟨a,vs,ns,rfl,rfl,hobj,hints,hlen⟩:=x9 hn hpre hwl
  refine enter_call (codeAny_mono (call w s₀ s₁ mg mb fa o pm cd doc a vs ns G Y ho (fd_plain hd) hcd hmg hobj hints hlen hg) fun r s' hq=>?_)
  obtain⟨rfl,h2,h3,h4⟩:=hq
  exact⟨.inl ⟨.bool true,.bool true,[],rfl,fun _=>rfl,.bool true,xY l _,fun _=>⟨List.Pairwise.nil,fun _ hm=>(nomatch hm)⟩⟩,h2,h3,h4⟩
section
variable{prog:Nl}{w:Nj}{A:Nn}{E:Kz→Nc→Prop}{s:Nc}{K:Frag}
end
end Att
namespace L2
open PySem PySem.Spec PyProof.Rows
theorem mn:∀{vs:List Kz} {ns:List Int},Pd vs ns→aS (ns.map V.int) vs
  | _,_,.nil=>.nil
  | _,_,.cons n t h=>.cons ⟨t,rfl⟩ (mn h)
def DS(H:Hp):Prop:=∀b,H b=none∨∃o xs,H b=some (.frz o (.lst xs))
theorem zb{P:Nl}{w:Nj}{K:Ng}{mg mb:Str→Option Kz}{CX:sZ}{k:Nat}{fa a:xM}{fd:Nx}{x:Str}{sp:Sp}{s₁:Nc}{vs:List Kz}{ns:List Int}
    (KX:K.In s₁.heap)(hns:s₁.heap.Ns NM mg)(hb:s₁.heap.Ns builtinsNs mb)(hbb:∀x:Str,x≠"__name__"→mb x=ON x)(hlim:s₁.heap.NoLimit)(hg:s₁.gens=#[])
    (ha:s₁.heap.get? a=some {cls:=.type "list",data:=.seq vs.toArray})(hi:Pd vs ns)(hl:ns.length≤Ny)(hr:bK k callerA)
    (F:∀base:Nk,K.In base→base.Ns NM mg→aG P w K mg base CX k fa fd [x] sp)(hbind:∀(s:Nc) (u:Kz),BindsTo s fd ⟨[u],[]⟩ [(x,u)])
    (hsp:∀H:Hp,DS H→iu K H a (ns.map V.int)→sp [.ref a] H (fun v _=>v=.bl true) fun _ _ _=>False)
    (hCX:∀H e s',CX [] H s₁ (fun _ _ _=>False) e s'→False):
    codeAny (Nr P w) callerA (.call (.ref fa) ⟨[.ref a],[]⟩) (fun r s'=>r=.ok (.ret (.bool true))∧OldK s₁.heap s'.heap∧s'.os=s₁.os∧AllBare s'.gens) s₁:=by
  have rv:=mn hi
  have lenV:=hi.length
  have core:∀H:Hp,DS H→iu K H a (ns.map V.int)→mY P w H s₁.heap→(∀b,H b≠none→b=a)→(H a≠none→K.lookup a=none)→
      codeAny (Nr P w) callerA (.call (.ref fa) ⟨[.ref a],[]⟩) (fun r s'=>r=.ok (.ret (.bool true))∧OldK s₁.heap s'.heap∧s'.os=s₁.os∧AllBare s'.gens) s₁:=by
    intro H hO hS hok hA hK
    have base_of:∀{b:xM} {o:Obj},s₁.heap.get? b=some o→H b=none→(rN s₁.heap H).get? b=some o:=fun e n=>yZ e n
    have noA:∀{b:xM} {o:Obj} {es:Array Pu} {ep:Nat},s₁.heap.get? b=some o→o.data=.dict es ep→H b=none:=fun{b o es ep} e d=>by
      cases q:H b with
      | none=>rfl
      | some u=>
        have e':b=a:=hA b (by rw [q];simp)
        subst e'
        rw [ha] at e;cases e
        have d':Data.seq vs.toArray _=Data.dict es ep:=d
        cases d'
    have nsK:∀{b:xM} {m:Str→Option Kz},s₁.heap.Ns b m→(rN s₁.heap H).Ns b m:=fun{b m} ⟨o,es,ep,e,d,r⟩=>⟨o,es,ep,base_of e (noA e d),d,r⟩
    have hKb:K.In (rN s₁.heap H):=fun b o e=>base_of (KX b o e) (by
      cases q:H b with
      | none=>rfl
      | some u=>
        have e':b=a:=hA b (by rw [q];simp)
        subst e'
        rw [hK (by rw [q];simp)] at e;cases e)
    have hM:Mod K mg (rN s₁.heap H):=⟨hKb,nsK hns,⟨mb,nsK hb,hbb⟩,let ⟨mc,h1,h2⟩:=hlim;⟨mc,nsK h1,h2⟩⟩
    have e0:uW P w K mg (rN s₁.heap H) callerA [] s₁ H:=⟨rfl,hM,fun b o e=>BW e,Nat.le_of_eq (xH _ _),trivial,fun b hb=>absurd (show b∈([]:List xM) from hb) (by simp),hok,.of_eq hg⟩
    refine codeAny_mono ((F _ hKb (nsK hns)).run callerA [] s₁ H ⟨[.ref a],[]⟩ [.ref a] [.ref a] _ _ hr e0 (hbind s₁ (.ref a)) (.cons rfl .nil) (hsp H hO hS)) fun r s' h=>?_
    cases r with
    | error e=>exact(hCX H e s' h).elim
    | ok fl=>
      cases fl with
      | next=>exact OC h
      | brk=>exact OC h
      | cont=>exact OC h
      | ret u=>
        obtain⟨v,H',os,bare,un,hok',r',q⟩:=h
        have q':v=.bl true:=q
        subst q'
        obtain rfl:u=Value.bool true:=r'
        refine⟨rfl,OldK.of_keep fun b o e=>?_,os,bare⟩
        cases q:H b with
        | none=>exact un.keep b o e q (by intro z;exact absurd (show b∈([]:List xM) from z) (by simp)) (by simp)
        | some u=>
          rcases hO b with z | ⟨ob,xs,z⟩
          · rw [q] at z;cases z
          · have z2:=un.frzs b ob _ z
            obtain⟨e1,_⟩:=hok b _ z
            obtain⟨e2,_⟩:=hok' b _ z2
            rw [e] at e1;cases e1
            exact e2
  cases hk:K.lookup a with
  | some o=>
    have e:=KX a o hk
    rw [ha] at e
    cases e
    refine core (fun _=>none) (fun _=>.inl rfl) (.inr ⟨_,vs.toArray,_,hk,rfl,rfl,rfl,by rw [NI,lenV];exact hl,by simpa using rv⟩) (fun b u z=>by have z':(none:Option HO)=some u:=z;cases z') (fun b z=>absurd rfl z) fun z=>absurd rfl z
  | none=>
    refine core (fun b=>if b=a then some (.frz {cls:=.type "list",data:=.seq vs.toArray} (.lst (ns.map V.int))) else none) (fun b=>?_) (.inl (.inr ⟨{cls:=.type "list",data:=.seq vs.toArray},if_pos rfl⟩)) (fun b u z=>?_) (fun b z=>?_) fun _=>hk
    · by_cases hb:b=a
      · exact .inr ⟨_,_,if_pos hb⟩
      · exact .inl (if_neg hb)
    · by_cases hb:b=a
      · have z':=(if_pos hb).symm.trans z
        cases z'
        subst hb
        exact⟨ha,by rw [NN];exact hl,vs,_,rv,ha⟩
      · have z':=(if_neg hb).symm.trans z
        cases z'
    · by_cases hb:b=a
      · exact hb
      · exact absurd (if_neg hb) z
theorem walk_of{l:PySem.W.OpenLaw}{n k:Nat}{q:Nl}{loose:List Str}{XP:(Str→Option Kz)→Nk→Prop}{YP:Nj→Nk→Prop}{d:DefRec}{K:Params→Ng}{CX:Nj→sZ}{sp:Nj→Sp}{x:Str}
    (hn:l.most=some n)(hn2:n≤Ny)(hdf:d.params.defaults=[])(hr:bK k callerA)
    (hY:∀(w:Nj) (h:Nk),YP w h→(K w.params).In h)
    (F:∀(w:Nj) (mg:Str→Option Kz) (fa:xM) (h:Nk),(K w.params).In h→h.Ns NM mg→mg d.name=some (.ref fa)→
      ∃fd:Nx,(∀(s:Nc) (u:Kz),BindsTo s fd ⟨[u],[]⟩ [(x,u)])∧
        ∀base:Nk,(K w.params).In base→base.Ns NM mg→aG l.prog w (K w.params) mg base (CX w) k fa fd [x] (sp w))
    (hsp:∀(w:Nj) (H:Hp) (a:xM) (ns:List Int),ns.length≤n→DS H→iu (K w.params) H a (ns.map V.int)→sp w [.ref a] H (fun v _=>v=.bl true) fun _ _ _=>False)
    (hCX:∀(w:Nj) (H:Hp) (s:Nc) (e:Kz) (s':Nc),CX w [] H s (fun _ _ _=>False) e s'→False):
    PySem.W.WalkO q loose XP YP l.row.toRowW d [] (fun f vs=>PySem.call f vs):=by
  refine Att.attach_call hn hdf fun w s₀ s₁ mg mb fa o pm cd doc a vs ns G Y ho hd hcd hmg hobj hints hlen hg=>?_
  have KX:=hY w _ Y
  obtain⟨fd,hb,hF⟩:=F w mg fa _ KX G.T.g hmg
  exact zb KX G.T.g G.T.b G.T.builtins G.T.nolimit hg hobj hints (NR hlen hn2) hr hF hb (fun H hO hS=>hsp w H a ns hlen hO hS) fun H e s'=>hCX w H s₁ e s'
abbrev cc:sZ:=fun _ _ _ _ _ _=>False
abbrev E0:XK:=fun _ _ _=>False
theorem uo{X:Cx}:j5 cc X E0:=fun _ _ _ _ _ _ _ h=>h.elim
structure sV (K:Ng) (x qual:Str) (st:Nm) (f:xM) (fd:Nx):Prop where
  ex:∃(oc:Kz) (od:Option xM) (kV doc pm:Kz) (an:Option xM) (cdv ct:Kz) (osl:Array (Option Kz)),
    fd=OA x qual (cY st) (cj st) (ag st) .none kV doc pm an cdv ct∧K.lookup f=some ⟨oc,od,.func fd,osl⟩∧Qi K cdv qual=true
  kp:Po K (.ref f)=true
section
variable{P:Nl}{w:Nj}{K:Ng}{mg:Str→Option Kz}{base:Nk}
theorem sV.ok{x qual:Str}{st:Nm}{f:xM}{fd:Nx}{N ps:List Str}{k:Nat}{sp:Sp}(F:sV K x qual st f fd)(S:au N ps (ag st))(len:∀vs H Q E,sp vs H Q E→vs.length=ps.length)
    (hbody:∀(cdv:Kz) (A:Nn) (outer:List Env) (s:Nc) (H:Hp) (vs:List V) (Q:VK) (E:XK),bK k (A.deeper (envOfC qual (ag st) s.heap.objs.size f cdv))→sp vs H Q E→
      ∃t,jh (tK cc P w K mg base N qual (ag st) f cdv A outer s H E).nox (cj st) t∧t {nx:=fun _ H'=>Q .non H',rt:=Q} (gM N vs) H):aG P w K mg base cc (k+1) f fd ps sp:=by
  obtain⟨oc,od,kV,doc,pm,an,cdv,ct,osl,rfl,lk,hcd⟩:=F.ex
  refine GH lk hcd S len fun A outer s H vs Q E hr hsp=>?_
  obtain⟨t,h,q⟩:=hbody cdv A outer s H vs Q E hr hsp
  exact⟨t,h.nox,q⟩
theorem sV.binds{x qual:Str}{st:Nm}{f:xM}{fd:Nx}{ps:List Str}(F:sV K x qual st f fd)
    (h:∀(kV doc pm:Kz) (an:Option xM) (cdv ct:Kz) (us:List Kz),us.length=ps.length→bindArgs (OA x qual (cY st) (cj st) (ag st) .none kV doc pm an cdv ct) ⟨us,[]⟩=pure (ps.zip us)):dz K fd ps []:=by
  obtain⟨oc,od,kV,doc,pm,an,cdv,ct,osl,rfl,lk,hcd⟩:=F.ex
  exact .all (h kV doc pm an cdv ct)
theorem ka{x qual:Str}{st:Nm}{f:xM}{oc:Kz}{od an:Option xM}{osl:Array (Option Kz)}{kV doc pm cdv ct:Kz}(l:K.lookup f=some ⟨oc,od,.func (OA x qual (cY st) (cj st) (ag st) .none kV doc pm an cdv ct),osl⟩)
    (c:Qi K cdv qual=true)(k:Po K (.ref f)=true):sV K x qual st f (OA x qual (cY st) (cj st) (ag st) .none kV doc pm an cdv ct):=⟨⟨oc,od,kV,doc,pm,an,cdv,ct,osl,rfl,l,c⟩,k⟩
end
theorem qU{n:Nat}(h:n≤1000):n < Ny:=QZ h (by decide)
section
variable{X:Cx}
end
theorem GU{A B:Prop}(h:B):if false=true then A else B:=by
  rw [if_neg Pz]
  exact h
theorem GV{A B:Prop}(h:A):if true=true then A else B:=by
  rw [if_pos rfl]
  exact h
def ao(H H':Hp):Prop:=∀b o,H b=some o→H' b=some o
theorem ao.refl(H:Hp):ao H H:=fun _ _ h=>h
theorem ao.trans{H H1 H2:Hp}(a:ao H H1)(b:ao H1 H2):ao H H2:=fun c o h=>b c o (a c o h)
theorem ao.free{H H':Hp}(e:ao H H'){l:xM}(h:H' l=Option.none):H l=Option.none:=by
  cases q:H l with
  | none=>rfl
  | some o=>
    rw [e l o q] at h
    cases h
theorem ao.seq{K:Ng}{H H':Hp}{a:xM}{xs:List V}(e:ao H H')(h:iu K H a xs):iu K H' a xs:=by
  rcases h with (h | ⟨o,h⟩) | h
  · exact .inl (.inl (e _ _ h))
  · exact .inl (.inr ⟨o,e _ _ h⟩)
  · exact .inr h
end L2
set_option maxHeartbeats 4000000
namespace L2
open PySem PySem.Spec PyProof.Rows
def Bt(n:Nat)(i:Int):Prop:=i.natAbs < 2 ^ n
theorem Bt.mono{m n:Nat}{i:Int}(h:Bt m i)(hm:m≤n):Bt n i:=Oe h (QB (by decide) hm)
theorem Bt.log{m:Nat}{i:Int}(h:Bt m i)(hm:0 < m):i.natAbs.log2 < m:=by
  unfold Bt at h
  rcases Nat.eq_zero_or_pos i.natAbs with h0 | hp
  · rw [h0];exact hm
  · exact(Nat.log2_lt (by lia)).mpr h
theorem Bt.bits{m:Nat}{i:Int}(h:Bt m i)(hm:0 < m):Builtin.Int.intBits i≤m:=by
  unfold Builtin.Int.intBits
  split
  · exact OS _
  · exact h.log hm
theorem Bt.of_le{m:Nat}{i:Int}{j:Int}(h:Bt m j)(e:i.natAbs≤j.natAbs):Bt m i:=QZ e h
section
variable{X:Cx}
def C4(i j:Int):Prop:=Bt 4000 i∧Bt 4000 j
theorem B_:gD X (NZ .Mult) (rI C4 fun i j=>.int (i*j)):=Hb fun _ _ _ _ _ _ _ hc q=>
  mul_int q (.of_bits (NR (hc.1.bits (by decide)) (by decide)) (NR (hc.2.bits (by decide)) (by decide)))
def C3(i j:Int):Prop:=j≠0∧Bt 8000 j
theorem zH:gD X (NZ .FloorDiv) (rI C3 fun i j=>.int (i.fdiv j)):=Hb fun _ _ _ _ _ _ _ hc q=>
  floordiv_int hc.1 q (.inl (PyProof.noPylong_of_log2 (Nat.lt_trans (hc.2.log (by decide)) (by decide))))
theorem E3:gD X (Oc .Is) (fun x y H Q=>∃b c,x=.bl b∧y=.bl c∧Q (.bl (b==c)) H):=by
  intro pins s σ H x y v u Q I rx ry h
  obtain⟨b,c,rfl,rfl,q⟩:=h
  cases rx;cases ry
  exact is_bool ⟨.bl _,H,I,rfl,q⟩
end
def mv(H H':Hp):Prop:=∀a o,H a=some o→(∀xs,o≠.lst xs)→(∀ob xs,o≠.frz ob (.lst xs))→H' a=some o
theorem mv.trans{H H1 H2:Hp}(a:mv H H1)(b:mv H1 H2):mv H H2:=fun c o h n m=>b c o (a c o h n m) n m
theorem ao.ts{H H':Hp}(h:ao H H'):mv H H':=fun a o e _ _=>h a o e
theorem mv.tup{K:Ng}{H H':Hp}(h:mv H H'){a:xM}{xs:List V}(q:dW K H a xs):dW K H' a xs:=by
  rcases q with (q | ⟨o,q⟩) | q
  · exact .inl (.inl (h _ _ q (fun _ e=>nomatch e) (fun _ _ e=>nomatch e)))
  · exact .inl (.inr ⟨o,h _ _ q (fun _ e=>nomatch e) (fun _ _ e=>nomatch e)⟩)
  · exact .inr q
section
variable{X:Cx}
end
structure dA (K:Ng) (mg:Str→Option Kz) (x:Str) (st:Nm) (f:xM) (fd:Nx) (ps:List Str):Prop where
  F:sV K x x st f fd
  m:mg x=some (.ref f)
  b:dz K fd ps []
theorem Ec{K:Ng}{mg:Str→Option Kz}{h:Nk}{x:Str}{st:Nm}{f:xM}{ps:List Str}{oc:Kz}{od an:Option xM}{osl:Array (Option Kz)}{kV doc pm cdv ct:Kz}(X:K.In h)(G:h.Ns NM mg)(a:OR K NM x=some (some (.ref f)))
    (l:K.lookup f=some ⟨oc,od,.func (OA x x (cY st) (cj st) (ag st) .none kV doc pm an cdv ct),osl⟩)(c:Qi K cdv x=true)(k:Po K (.ref f)=true)
    (hb:∀(kV doc pm:Kz) (an:Option xM) (cdv ct:Kz) (us:List Kz),us.length=ps.length→bindArgs (OA x x (cY st) (cj st) (ag st) .none kV doc pm an cdv ct) ⟨us,[]⟩=pure (ps.zip us)):
    dA K mg x st f (OA x x (cY st) (cj st) (ag st) .none kV doc pm an cdv ct) ps:=⟨ka l c k,Pe X G a,(ka l c k).binds hb⟩
theorem Fc{X:Cx}{x:Str}{st:Nm}{f:xM}{fd:Nx}{ps:List Str}{k:Nat}{sp:Sp}{e:Nh}{es:List Nh}{t:TA}{p pos:Pos}(h:dA X.K X.mg x st f fd ps)(G:aG X.prog X.w X.K X.mg X.base cc k f fd ps sp)(hr:bK k X.A)(ha:PA X (e::es) t)
    (hg:Gl X x:=by rfl)(hdb:(x==("__debug__":Str))=false:=by decide)(he:Nq (e::es) X.env=(false,Nt e X.env)::Nq es X.env:=by rfl)(hpl:(ND pos (Nq es X.env)).any (·.1)=false:=by rfl):
    PE X (.Call (.Name x p) (e::es) [] pos) (qX sp [] E0 t):=Cd G hr hg h.m h.F.kp h.b .nil uo ha hdb he hpl
theorem ao.new{H:Hp}{p:xM}{o:HO}(h:H p=none):ao H (bw H p o):=fun b u e=>by
  rw [av (el e h)];exact e
theorem ao.tup{K:Ng}{H H':Hp}{a:xM}{xs:List V}(e:ao H H')(h:dW K H a xs):dW K H' a xs:=e.ts.tup h
def eW(t b:Int):Int × Int:=if b < 0 then(t.fdiv (-(NB t b:Int)),b.fdiv (-(NB t b:Int))) else(t.fdiv (NB t b:Int),b.fdiv (NB t b:Int))
theorem yW(x y:Int):NB y (x.fmod y)=NB x y:=by
  rw [Int.fmod_def,Int.gcd_sub_mul_left_right,Int.gcd_comm]
theorem mD(x:Int){y:Int}(h:y≠0):(x.fmod y).natAbs < y.natAbs:=by
  rcases Int.lt_or_gt_of_ne h with h | h
  · have h1:x.fmod y= -((-x).fmod (-y)):=by
      have:=Int.neg_fmod_neg x y
      lia
    have h2:=Int.fmod_nonneg_of_pos (-x) (b:= -y) (by lia)
    have h3:=Int.fmod_lt_of_pos (-x) (b:= -y) (by lia)
    lia
  · have h2:=Int.fmod_nonneg_of_pos x h
    have h3:=Int.fmod_lt_of_pos x h
    lia
theorem wy{t b:Int}(h:b≠0):(0:Int) < NB t b:=by
  have:=Int.gcd_pos_of_ne_zero_right t h
  lia
theorem qH{t b:Int}(h:b≠0):∃d:Int,d.natAbs=NB t b∧d≠0∧(eW t b).1*d=t∧(eW t b).2*d=b∧0 < (eW t b).2:=by
  have hg:=wy (t:=t) h
  have d1:(NB t b:Int) ∣ t:=Int.gcd_dvd_left ..
  have d2:(NB t b:Int) ∣ b:=Int.gcd_dvd_right ..
  unfold eW
  split
  · rename_i hb
    have e1:t.fdiv (-(NB t b:Int))*(-(NB t b:Int))=t:=QC (Int.neg_dvd.mpr d1)
    have e2:b.fdiv (-(NB t b:Int))*(-(NB t b:Int))=b:=QC (Int.neg_dvd.mpr d2)
    refine⟨-(NB t b:Int),by lia,by lia,e1,e2,?_⟩
    show 0 < b.fdiv (-(NB t b:Int))
    have h3:b.fdiv (-(NB t b:Int))*(NB t b:Int)= -b:=by rw [Int.mul_neg] at e2;lia
    exact Int.pos_of_mul_pos_left (by lia) (by lia) (b:=(NB t b:Int))
  · rename_i hb
    have e1:t.fdiv (NB t b:Int)*(NB t b:Int)=t:=QC d1
    have e2:b.fdiv (NB t b:Int)*(NB t b:Int)=b:=QC d2
    refine⟨(NB t b:Int),by lia,by lia,e1,e2,?_⟩
    show 0 < b.fdiv (NB t b:Int)
    exact Int.pos_of_mul_pos_left (by lia) (by lia) (b:=(NB t b:Int))
theorem zh{t b:Int}(h:b≠0):NB (eW t b).1 (eW t b).2=1:=by
  obtain⟨d,h1,h2,h3,h4,h5⟩:=qH (t:=t) h
  have e:NB ((eW t b).1*d) ((eW t b).2*d)=NB (eW t b).1 (eW t b).2*d.natAbs:=Int.gcd_mul_right ..
  rw [h3,h4,←h1] at e
  have hd:0 < d.natAbs:=by lia
  exact(Nat.eq_of_mul_eq_mul_right hd (by rw [Nat.one_mul];exact e)).symm
theorem Eb{t b:Int}(h:b≠0){n:Nat}(hb:Bt n b):Bt n (NB t b:Int):=by
  refine hb.of_le ?_
  have h1:=Nat.le_of_dvd (show 0 < b.natAbs by lia) (Int.ofNat_dvd.mp (by rw [Int.dvd_natAbs];exact Int.gcd_dvd_right t b))
  lia
mutual
def cnt:Nf→Nat
  | .tuple ds=>1+j8 ds
  | .str _=>0
  | _=>1
def j8:List Nf→Nat
  | []=>0
  | d::ds=>cnt d+j8 ds
end
mutual
def oU:Nf→Bool
  | .tuple ds=>hX ds
  | .str _=>false
  | .list _=>false
  | .dict _=>false
  | _=>true
def hX:List Nf→Bool
  | []=>true
  | d::ds=>oU d&&hX ds
end
theorem p9{a:Int}(h:a.natAbs.log2 < 1920):(Ni (toString a)).length≤1921:=by
  have e:=int_text_length_le (k:=1920) (by decide) h
  rw [PySem.ofString_length];lia
theorem vI(x:Str)(r:List Str):piled (x::r)=x.length+2+piled r:=by
  simp [piled]
theorem yg(ts:List Str):(tupleText ts).length≤piled ts+3:=by
  unfold tupleText
  rw [strLen_append,strLen_append]
  have h1:(("(":Str)).length=1:=by decide
  have h2:(Ni (if (ts.length==1)=true then ",)" else ")")).length≤2:=by split<;>decide
  have h3:(Of ", " ts).length≤piled ts:=by
    cases ts with
    | nil=>show(Of ", " []).length≤0;decide
    | cons x r=>have:=join_length_add (x::r) (by simp);lia
  lia
mutual
theorem qT:∀{d:Nf},oU d=true→d.showable=true→d.shown.length+2≤2000*cnt d
  | .none,_,_=>by show(Ni "None").length+2≤2000*1;decide
  | .bool b,_,_=>by
    cases b
    · show(Ni "False").length+2≤2000*1;decide
    · show(Ni "True").length+2≤2000*1;decide
  | .int i,_,hs=>by
    simp only [PyData.showable,decide_eq_true_eq] at hs
    have:=p9 hs
    show(Ni (toString i)).length+2≤2000*1
    lia
  | .tuple ds,hn,hs=>by
    simp only [PyData.showable] at hs
    simp only [oU] at hn
    have h1:=lM hn hs
    have h2:=yg (QD ds)
    simp only [PyData.shown,cnt]
    lia
  | .str _,hn,_=>by simp [oU] at hn
  | .list _,hn,_=>by simp [oU] at hn
  | .dict _,hn,_=>by simp [oU] at hn
theorem lM:∀{ds:List Nf},hX ds=true→QE ds=true→piled (QD ds)≤2000*j8 ds
  | [],_,_=>by simp [QD,piled]
  | d::ds,hn,hs=>by
    simp only [hX,Ol] at hn
    simp only [QE,Ol] at hs
    have h1:=qT hn.1 hs.1
    have h2:=lM hn.2 hs.2
    simp only [QD,j8,vI]
    lia
end
def iH(env:Env):List (Str × Oj)→List (Str × xM)→List (Str × xM)
  | [],cs=>cs
  | (n,k)::r,cs=>iH env r (if k==.free then(n,(env.cells.lookup n).getD 0)::cs else cs)
theorem kS{env:Env}:∀(names:List (Str × Oj)) (cs:List (Str × xM)),(∀y∈names,y.2=.free→∃c,env.cells.lookup y.1=some c)→
    (forIn names cs (fun(x:Str × Oj) (r:List (Str × xM))=>(if (x.2==Oz)=true then do let a ←cellOf env x.1;pure (PY ((x.1,a)::r)) else pure (PY r):Sem (ForInStep (List (Str × xM))))):Sem (List (Str × xM)))=pure (iH env names cs)
  | [],cs,_=>rfl
  | (n,k)::r,cs,h=>by
    rw [List.forIn_cons]
    have ih:=fun cs'=>kS (env:=env) r cs' (fun y hy=>h y (Ow _ hy))
    by_cases hk:(k==Oz)=true
    · have hk':k=.free:=by simpa using hk
      obtain⟨c,hc⟩:=h (n,k) OZ hk'
      have e:cellOf env n=pure c:=by unfold cellOf;rw [hc]
      simp only [hk,if_true,e,pure_bind,iH,hc,QF]
      exact ih _
    · have hk':(k==Oz)=false:=by simpa using hk
      simp only [hk',QG,if_false,pure_bind,iH]
      exact ih _
theorem vc{scope:NL}{env:Env}(h:∀y∈scope.names,y.2=.free→∃c,env.cells.lookup y.1=some c):closureFor scope env=pure (iH env scope.names []):=by
  have e:=kS (env:=env) scope.names [] h
  unfold closureFor
  simp only [pure_bind,bind_pure] at e ⊢
  exact e
theorem n_{env:Env}:∀(names:List (Str × Oj)) (cs:List (Str × xM)) (x:Str) (c:xM),(∀y∈names,y.2=.free→∃c,env.cells.lookup y.1=some c)→(∀x c,cs.lookup x=some c→env.cells.lookup x=some c)→(iH env names cs).lookup x=some c→env.cells.lookup x=some c
  | [],cs,x,c,_,hs,h=>hs x c h
  | (n,k)::r,cs,x,c,hn,hs,h=>by
    refine n_ r _ x c (fun y hy=>hn y (Ow _ hy)) (fun x' c' e=>?_) h
    by_cases hk:(k==Oz)=true
    · rw [if_pos hk] at e
      obtain⟨c0,hc⟩:=hn (n,k) OZ (by simpa using hk)
      rw [NU] at e
      cases hx:x'==n with
      | true=>
        rw [hx] at e
        have e1:x'=n:=by simpa using hx
        subst e1
        simp only [hc,QF,Pv] at e
        rw [←e];exact hc
      | false=>rw [hx] at e;exact hs x' c' e
    · rw [if_neg hk] at e
      exact hs x' c' e
theorem tI{env:Env}:∀(names:List (Str × Oj)) (cs:List (Str × xM)) (x:Str),((∃y∈names,y.1=x∧y.2=.free)∨∃c,cs.lookup x=some c)→∃c,(iH env names cs).lookup x=some c
  | [],cs,x,h=>by
    rcases h with ⟨y,hy,_⟩ | h
    · cases hy
    · exact h
  | (n,k)::r,cs,x,h=>by
    refine tI r _ x ?_
    by_cases hk:(k==Oz)=true
    · rw [if_pos hk,NU]
      cases hx:x==n with
      | true=>exact .inr ⟨_,rfl⟩
      | false=>
        rcases h with ⟨y,hy,e1,e2⟩ | h
        · rcases Na hy with z | z
          · subst z;subst e1;simp at hx
          · exact .inl ⟨y,z,e1,e2⟩
        · exact .inr h
    · rw [if_neg hk]
      rcases h with ⟨y,hy,e1,e2⟩ | h
      · rcases Na hy with z | z
        · subst z;exact absurd (by simpa using e2) hk
        · exact .inl ⟨y,z,e1,e2⟩
      · exact .inr h
theorem i_{env:Env}:∀{names:List (Str × Oj)} {x:Str},names.lookup x=some .free→
    (names.map fun(n,k)=>if (k==Oz&&env.scope.kind==.function&&env.kindOf n==some .cell) then(n,PH) else(n,k)).lookup x≠some .local
  | [],x,h=>by simp at h
  | (n,k)::r,x,h=>by
    rw [NP]
    cases hx:x==n with
    | true=>
      simp only [hx,NU] at h
      cases h
      show Od x ((if (Oz==Oz&&env.scope.kind==.function&&env.kindOf n==some .cell)=true then(n,PH) else(n,Oz))::_)≠_
      split<;>simp [NU,hx]
    | false=>
      simp only [hx,NU] at h
      have ih:=@i_ env r x h
      have e2:∀(l:List (Str × Oj)),((if (k==Oz&&env.scope.kind==.function&&env.kindOf n==some .cell)=true then(n,PH) else(n,k))::l).lookup x=l.lookup x:=fun l=>by
        split<;>simp [NU,hx]
      simp only [e2]
      exact ih
def A0(X:Cx)(ifs:List Nh)(t:TT):Prop:=
  ∀(pins:List (xM × Obj)) (s:Nc) (σ:L2.St) (H:Hp) (Q:Bool→Hp→Prop),aH X pins σ H s→t σ H Q→
    Np (Nr X.prog X.w) X.A (forIn ifs true fun c r=>if r=true then do let ok ←isTrue c X.env (Nt c X.env);pure (PY ok) else pure (PY r)) (TP X pins σ Q) X.xe s
theorem Cs{X:Cx}:A0 X [] (fun _ H Q=>Q true H):=fun _ _ _ H _ I h=>wpAny_tests_nil ⟨H,I,h⟩
theorem Ct{X:Cx}{c:Nh}{t:TT}(h:PT X c t):A0 X [c] t:=fun pins s σ H Q I q=>wpAny_tests_one (h pins s σ H Q I q)
abbrev Gq:Kz→Nc→Prop:=fun _ _=>False
def D4(prog:Nl)(w:Nj)(A:Nn)(elt tg:Nh)(ifs:List Nh)(env:Env)(it acc:Kz)(onward:Nc→Prop)(v:Kz)(u:Nc):Prop:=
  Np (Nr prog w) A (Qs tg it v) (fun _ u1=>Np (Nr prog w) A (assign tg env v) (fun _ u2=>Np (Nr prog w) A
    (forIn ifs true fun c r=>if r=true then do let ok ←isTrue c env (Nt c env);pure (PY ok) else pure (PY r)) (fun ok u3=>if ok=true then Np (Nr prog w) A (Nt elt env) (fun x u4=>Np (Nr prog w) A (call (.builtin "list.append") [acc,x]) (fun _ u5=>onward u5) Gq u4) Gq u3 else onward u3) Gq u2) Gq u1) Gq u
theorem rE{prog:Nl}{w:Nj}{A:Nn}{R:Result→Nc→Prop}{elt tg iter:Nh}{ifs:List Nh}{scope:NL}{pos:Pos}{it acc:Kz}{env:Env}(J:Nat→Nc→Prop)
    (turn:∀n u,J n u→Np (Nr prog w) A (pyNext it) (fun r u1=>(r=none→R (.ok .next) u1)∧∀v,r=some v→D4 prog w A elt tg ifs env it acc (fun u2=>∃m,m < n∧J m u2) v u1) Gq u){n0:Nat}{u0:Nc}(gM:J n0 u0):
    codeAny (Nr prog w) A (.compLoop (.ListComp elt [⟨tg,iter,ifs,0⟩] scope pos) 0 it acc env) R u0:=by
  refine codeAny_loop rfl J (fun n u ju=>?_) n0 gM
  show Np _ A ((compTurn (.ListComp elt [⟨tg,iter,ifs,0⟩] scope pos) 0 it acc env).onRaise _) _ _ u;refine wpAny_noted ?_;rw [compTurn_list]
  refine Nu (wpAny_standAt (Nu (OB (turn n u ju) (fun r u1 k1=>?_) fun _ _ z=>z.elim)))
  cases r with
  | none=>exact Nz (k1.1 rfl)
  | some v=>
    refine Nu (OB (k1.2 v rfl) (fun _ u2 k2=>Nu (OB k2 (fun _ u3 k3=>Nu (OB k3 (fun ok u4 k4=>?_) fun _ _ z=>z.elim)) fun _ _ z=>z.elim)) fun _ _ z=>z.elim)
    cases ok with
    | false=>rw [if_neg Pz] at k4;exact Nz ⟨rfl,k4⟩
    | true=>
      rw [if_pos rfl] at k4
      refine Nu (Nu (OB k4 (fun x u5 k5=>Nu (OB k5 (fun _ u6 k6=>?_) fun _ _ z=>z.elim)) fun _ _ z=>z.elim));exact Nz (Nz ⟨rfl,k6⟩)
def i6(cp:List (Nat × Str))(nT:Nat)(σ:L2.St):L2.St:=cp.map (fun p=>(σ[p.1]?).join)++Nv nT none
structure AH (cp:List (Nat × Str)) (nT:Nat) (wi:TI) (g:TG) (tc:TT) (te:TE) (σ:L2.St) (H:Hp) (Q:VK):Prop where
  go:wi σ H fun J H1=>∀l,H1 l=none→
  ∃W:Nat→Nat→L2.St→Hp→Prop,(∃m,W 0 m (i6 cp nT σ) (bw H1 l (.lst [])))∧∀i m σ' H',W i m σ' H'→
    (J.stop i H'∧Q (.ref l) H')∨(J.go i H'∧∃N:L2.St→Hp→Prop,(∀σ2 H2,N σ2 H2→∃m',m' < m∧W (i+1) m' σ2 H2)∧
      ∀x H2,J.yld i H' x H2→g x σ' H2 fun σ2 H3=>tc σ2 H3 fun b H4=>if b=true then te σ2 H4 fun v H5=>∃ys,H5 l=some (.lst ys)∧ys.length < Ny∧N σ2 (bw H5 l (.lst (ys++[v]))) else N σ2 H4)
section
variable{X:Cx}
def Ad(K:Ng):R2:=fun x y H Q=>∃a b xs ys,x=.ref a∧y=.ref b∧dW K H a xs∧dW K H b ys∧xs.length+ys.length≤Ny∧∀p H',ao H H'→dW K H' p (xs++ys)→Q (.ref p) H'
theorem B5:gD X (NZ .Add) (Ad X.K):=by
  intro pins s σ H x y v u Q I rx ry h
  obtain⟨a,b,xs,ys,rfl,rfl,ha,hb,hz,q⟩:=h
  cases rx;cases ry
  by_cases hx:xs=[]
  · obtain⟨i1,r1,p1,_⟩:=I.tuple ha
    obtain⟨i2,r2,p2,_⟩:=I.tuple hb
    obtain⟨m,F⟩:=I.fr
    have e1:i1=[]:=by subst hx;cases r1;rfl
    refine add_tuples F (zw (g:=X.base)) p1 p2 (fun _=>?_) (fun z1 _=>absurd e1 z1) (fun z1 _ _ _ _=>absurd e1 z1) (by rw [←r1.length,←r2.length];exact hz)
    exact⟨.ref b,H,I,rfl,q b H (ao.refl H) (by rw [hx];exact hb)⟩
  · exact B6 pins s σ H (.ref a) (.ref b) _ _ Q I rfl rfl ⟨a,b,xs,ys,rfl,rfl,ha,hb,hx,hz,fun z=>q a H (ao.refl H) (by rw [z,OP];exact ha),fun _ p hp=>q p _ (ao.new hp) (dW.of ar)⟩
theorem iW{x:V}{us:List Kz}(r:aS [x] us):∃u,us=[u]∧bE x u:=by
  cases r with
  | cons p p'=>cases p';exact⟨_,rfl,p⟩
theorem yD{k:Nat}(hr:bK k X.A):cQ X (.builtin "sum") (fun xs H Q=>∃(l:xM) (ns:List Int),xs=[.ref l]∧iu X.K H l (ns.map V.int)∧Q (.int ns.sum) H):=by
  intro pins s σ H xs us Q I r h
  obtain⟨l,ns,rfl,hs,q⟩:=h
  obtain⟨u,rfl,ru⟩:=iW r
  cases ru
  obtain⟨its,rv,p,hz⟩:=I.list hs
  have hi:Pd its ns:=oO rv
  obtain⟨ys,ey⟩:=hi.allInts.items
  have hl:=p.isList
  rw [ey] at hl
  refine PySem.sum_intListG hr.hd hl fun h' tk t' hk=>?_
  have e:preSum (numAt ys) ys.size=ns.sum:=by
    have e2:=nums_intItems (xs:=ys)
    rw [←ey] at e2
    have e3:=hi.numsOf
    rw [preSum_eq,List.take_of_length_le (by simp)]
    rw [show its.toArray.toList=its from rfl,e3] at e2
    rw [e2]
  exact⟨.int ns.sum,H,I.kept hk,⟨t',by rw [e]⟩,q⟩
theorem tJ{prog:Nl}{w:Nj}{A:Nn}{E:Kz→Nc→Prop}{s:Nc}{t:xM}{vs:List Kz}{Q:List Kz→Nc→Prop}(ht:IsTup s.heap t vs.toArray)
    (h:Q vs {s with heap:=(s.heap.push (seqObj "list" #[] 0)).update s.heap.objs.size (PF (· ++vs.toArray))})(hsz:vs.length≤Ny):Np (Nr prog w) A (collect (.ref t)) Q E s:=by
  obtain⟨o,ho,hc,n,hd⟩:=id ht;unfold collect;refine Nu (wpAny_runValue (codeAny_builtin entry_proto_collect' ?_))
  show Np _ _ (do again (.builtin "list.__iadd__" ⟨[←newList [],.ref t],[]⟩)) _ _ s
  refine Nu (wpAny_newList (Nz ⟨Code.quiet_builtin _ (by decide+kernel),?_⟩));refine codeAny_builtin entry_list_iadd' ?_
  show Np _ _ (Ru (.ref s.heap.objs.size) (.ref t) (.ref s.heap.objs.size)) _ _ {s with heap:=s.heap.push (seqObj "list" #[] 0)}
  unfold Ru;have ho':(s.heap.push (seqObj "list" #[] 0)).get? t=some o:=NS _ ho
  refine Nu (wpAny_typeOf (T:="tuple") ⟨o,ho',hc⟩ ?_)
  rw [if_pos (by rw [show(Value.type "tuple"==Value.type "tuple")=true from rfl,Bool.or_true])]
  refine Nu (listItems_at ho' hd ?_);refine Nu (listItems_at (xs:=#[]) (n:=0) (Oo _ rfl) rfl ?_)
  rw [if_neg (by simp)];refine Nu (listUpdate_at (xs:=#[]) (n:=0) (Oo _ rfl) rfl ?_ (OS _) (by show(#[]++vs.toArray).size≤Ny+1;simp only [Array.size_append,NI,List.length_nil];lia))
  refine Nz ?_
  show Np (Nr prog w) A (load s.heap.objs.size >>= fun o=>match o.data with | .seq xs _=>pure xs.toList | _=>unsupported "internal:collect") Q E {s with heap:=(s.heap.push (seqObj "list" #[] 0)).update s.heap.objs.size (PF (· ++vs.toArray))}
  refine Nu (wpAny_load (get?_update_seq (Oo _ rfl) _) ?_);show Np _ _ (pure ((#[]:Array Kz)++vs.toArray).toList) Q E _;rw [show((#[]:Array Kz)++vs.toArray).toList=vs by simp];exact Nz h
theorem vO{prog:Nl}{w:Nj}{A:Nn}{E:Kz→Nc→Prop}{s:Nc}{t:xM}{vs:List Kz}{ns:List Int}{Q:Kz→Nc→Prop}(ht:IsTup s.heap t vs.toArray)(hI:Pd vs ns)(h64:vs.length < 64)
    (h:∀(out:Array Kz) (ns':List Int),Pd out.toList ns'→ns'.Perm ns→ns'.Pairwise (· ≤·)→Q (.ref (s.heap.objs.size+1)) {s with heap:=sortedAll s.heap vs out}):Np (Nr prog w) A (call (.builtin "sorted") [.ref t]) Q E s:=by
  refine Calls.call_function_entry kind_sorted plain_sorted entry_sorted (args_sorted1 _) ?_;unfold Builtin.«sorted»
  refine Nu (m:=checkCount "sorted" 1 1 _) (Nz ?_);refine Nu (tJ ht ?_ (NR (Pw h64) (by decide)))
  have z:((s.heap.push (seqObj "list" #[] 0)).update s.heap.objs.size (PF (· ++vs.toArray))).objs.size=s.heap.objs.size+1:=by rw [Heap.size_update,size_push']
  have o:(((s.heap.push (seqObj "list" #[] 0)).update s.heap.objs.size (PF (· ++vs.toArray))).push (seqObj "list" vs.toArray 0)).get? (s.heap.objs.size+1)=some (seqObj "list" vs.toArray 0):=by rw [←z];exact Oo _ rfl
  refine Nu (wpAny_newList ?_);show Np _ _ _ _ _ {s with heap:=((s.heap.push (seqObj "list" #[] 0)).update s.heap.objs.size (PF (· ++vs.toArray))).push (seqObj "list" vs.toArray 0)}
  rw [z];refine Nu (wpAny_holding (wpAny_call_entry slot_list_sort ⟨_,o,rfl⟩ entry_list_sort (list_sort_tree o hI h64 fun out ns' b1 b2 b3=>⟨_,rfl,?_⟩) (args_list_sort _)))
  exact Nz ⟨_,rfl,h out ns' b1 b2 b3⟩
theorem tF:cQ X (.builtin "sorted") (fun xs H Q=>∃(a:xM) (ns:List Int),xs=[.ref a]∧dW X.K H a (ns.map V.int)∧ns.length < 64∧∀(l:xM) (ns':List Int) (H':Hp),ao H H'→H l=none→H' l=some (.lst (ns'.map V.int))→ns'.Perm ns→ns'.Pairwise (· ≤·)→Q (.ref l) H'):=by
  intro pins s σ H xs us Q I r h
  obtain⟨a,ns,rfl,hs,h64,q⟩:=h
  obtain⟨u,rfl,ru⟩:=iW r
  cases ru
  obtain⟨its,rv,p,hz⟩:=I.tuple hs
  have hl:=rv.length
  rw [NN] at hl
  refine vO p (oO rv) (by lia) fun out ns' a1 a2 a3=>?_
  obtain⟨e,he⟩:=sortedAll_at s.heap its out
  have hf:H (s.heap.objs.size+1)=none:=I.hok.fresh (Nat.le_succ _)
  refine⟨.ref (s.heap.objs.size+1),bw H (s.heap.objs.size+1) (.lst (ns'.map V.int)),I.laid (t':=s.toks) (fun _ _=>sortedAll_old) (Nat.le_succ _) ⟨?_,out.toList,e,mn a1,?_⟩,rfl,q _ ns' _ (ao.new hf) hf ar a2 a3⟩
  · rw [NN,a2.length_eq]
    exact NR (Pw h64) (by decide)
  · simpa [seqObj] using he
end
section
variable{X:Cx}
end
theorem ya{e:Nh}{es:List Nh}{env:Env}(h:PJ e=false):Nq (e::es) env=(false,Nt e env)::Nq es env:=by
  cases e<;>first | rfl | cases h
theorem vF{X:Cx}{e:Nh}{es:List Nh}{te:TE}{t:TA}(ha:PE X e te)(hr:PA X es t)(h:PJ e=false:=by rfl):PA X (e::es) (mU te t):=lw ha hr (ya h)
def xa:List (Int × Int)→TA
  | []=>AK
  | p::r=>mU (HZ (mU (tC (.int p.1)) (mU (tC (.int p.2)) AK))) (xa r)
@[irreducible] def Jy(ps:List (Int × Int)):TA:=xa ps
structure lQ where
  one:Int
  other:Int
  top:Int
  bot:Int
  worth:Int
structure aT where
  things:Int
  ties:List lQ
  pat:List Int
  asks:Int
structure lQ.Ok (n:Int) (t:lQ):Prop where
  o0:0≤t.one
  o1:t.one < t.other
  o2:t.other < n
  c0:0≤t.top
  c1:t.top≤t.bot
  b0:1≤t.bot
  b1:t.bot≤100
  w0:0≤t.worth
  w1:t.worth≤1000
  cop:NB t.top t.bot=1
structure aT.Ok (w:aT):Prop where
  t0:0≤w.things
  t1:w.things≤12
  ties:∀t∈w.ties,t.Ok w.things
  len:w.ties.length≤16
  pl:(w.pat.length:Int)=w.things
  pat:∀p∈w.pat,0≤p∧p≤20
  a0:0≤w.asks
  a1:w.asks≤40
def Gw(K:Ng)(H:Hp)(v:V)(t:lQ):Prop:=∃p q,v=.ref p∧dW K H p [.int t.one,.int t.other,.ref q,.int t.worth]∧dW K H q [.int t.top,.int t.bot]
inductive ri (K:Ng) (H:Hp):List V→List lQ→Prop
  | nil:ri K H [] []
  | cons {v vs t ts}:Gw K H v t→ri K H vs ts→ri K H (v::vs) (t::ts)
structure JN (K:Ng) (H:Hp) (v:V) (w:aT):Prop where
  ex:∃a b c ts,v=.ref a∧dW K H a [.int w.things,.ref b,.ref c,.int w.asks]∧dW K H b ts∧ri K H ts w.ties∧dW K H c (w.pat.map V.int)
section
variable{K:Ng}{H H':Hp}
end
theorem vw{t b:Int}(hb:0 < b)(h0:0≤t)(h1:t≤b)(h2:b≤100):0≤(eW t b).1∧(eW t b).1≤(eW t b).2∧1≤(eW t b).2∧(eW t b).2≤100:=by
  obtain⟨d,e1,e2,e3,e4,e5⟩:=qH (t:=t) (b:=b) (by lia)
  generalize (eW t b).1=x at*
  generalize (eW t b).2=y at*
  have dp:0 < d:=by
    rcases Int.lt_or_gt_of_ne e2 with z | z
    · exfalso
      have:y*d < 0:=Int.mul_neg_of_pos_of_neg e5 z
      lia
    · exact z
  have x0:0≤x:=by
    rcases Int.lt_or_le x 0 with z | z
    · have:x*d < 0:=Int.mul_neg_of_neg_of_pos z dp
      lia
    · exact z
  have xy:x≤y:=by
    rcases Int.lt_or_le y x with z | z
    · have:y*d < x*d:=Int.mul_lt_mul_of_pos_right z dp
      lia
    · exact z
  have yb:y≤y*d:=by
    have:=Int.mul_le_mul_of_nonneg_left (show(1:Int)≤d by lia) (show 0≤y by lia)
    lia
  exact⟨x0,xy,by lia,by lia⟩
inductive mW {α β:Type} (R:α→β→Prop):List α→List β→Prop
  | nil:mW R [] []
  | cons {a b as bs}:R a b→mW R as bs→mW R (a::as) (b::bs)
namespace mW
variable{α β:Type}{R S:α→β→Prop}
theorem mono(h:∀a b,R a b→S a b):∀{as:List α} {bs:List β},mW R as bs→mW S as bs
  | _,_,.nil=>.nil
  | _,_,.cons x r=>.cons (h _ _ x) (mono h r)
theorem len:∀{as:List α} {bs:List β},mW R as bs→as.length=bs.length
  | _,_,.nil=>rfl
  | _,_,.cons _ r=>by simp [len r]
theorem snoc{a:α}{b:β}(h:R a b):∀{as:List α} {bs:List β},mW R as bs→mW R (as++[a]) (bs++[b])
  | _,_,.nil=>.cons h .nil
  | _,_,.cons x r=>.cons x (snoc h r)
theorem get:∀{as:List α} {bs:List β} {i:Nat} {b:β},mW R as bs→bs[i]?=some b→∃a,as[i]?=some a∧R a b
  | _,_,_,_,.nil,e=>by simp at e
  | _,_,0,_,.cons x _,e=>by simp at e;subst e;exact⟨_,rfl,x⟩
  | _,_,i+1,b,.cons _ r,e=>by
    obtain⟨v,h1,h2⟩:=get (i:=i) (b:=b) r (by simpa using e)
    exact⟨v,by simpa using h1,h2⟩
end mW
section
variable{K:Ng}{a l:xM}{xs:List V}{g:TG}{tc:TT}{te:TE}{Q:VK}{σ:L2.St}{H:Hp}{α β:Type}{us:List α}{cp:List (Nat × Str)}{nT:Nat}
def Iq(aW:Hp→V→β→Prop)(SI:L2.St→Prop)(us:List α)(f:α→Option β)(H:Hp)(l:xM)(i:Nat)(σ:L2.St)(H':Hp):Prop:=SI σ∧ao H H'∧∃vs,H' l=some (.lst vs)∧vs.length≤i∧mW (aW H') vs ((us.take i).filterMap f)
end
theorem mS:∀{a b:List Int},a.Perm b→a.Pairwise (· ≤·)→b.Pairwise (· ≤·)→a=b
  | [],b,p,_,_=>by
    have:=p.length_eq
    exact(Ra.mp this.symm).symm
  | x::a,b,p,h1,h2=>by
    cases b with
    | nil=>have:=p.length_eq;simp at this
    | cons y b=>
      have h1':=List.pairwise_cons.mp h1
      have h2':=List.pairwise_cons.mp h2
      have e:x=y:=by
        have m1:y∈x::a:=p.mem_iff.mpr (by simp)
        have m2:x∈y::b:=p.mem_iff.mp (by simp)
        rcases Na m1 with z | z
        · exact z.symm
        · rcases Na m2 with z2 | z2
          · exact z2
          · have:=h1'.1 y z
            have:=h2'.1 x z2
            lia
      subst e
      rw [mS ((List.perm_cons x).mp p) h1'.2 h2'.2]
def io(ns:List Int):List Int:=ns.mergeSort
theorem AG{ns ns':List Int}(p:ns'.Perm ns)(h:ns'.Pairwise (· ≤·)):ns'=io ns:=by
  refine mS (p.trans (List.mergeSort_perm ns _).symm) h ?_
  have:=List.pairwise_mergeSort (le:=fun a b:Int=>decide (a≤b)) (fun a b c h1 h2=>by simp at*;lia) (fun a b=>by simp;lia) ns
  exact this.imp fun h=>by simpa using h
theorem kz(ns:List Int):(io ns).Perm ns:=List.mergeSort_perm ns _
theorem qW{ns:List Int}{x:Int}:x∈io ns↔ x∈ns:=(kz ns).mem_iff
theorem qV(ns:List Int):(io ns).length=ns.length:=(kz ns).length_eq
section
variable{X:Cx}{K:Ng}{pos:Pos}
theorem wF{es:List Nh}{k:Nat}{t:A6}{n:Nat}(hK:X.K=K)(hc:X.calm=true)(h:yk X es t)(hn:(NY es X.env).length=n:=by rfl)(hst:(NY es X.env).findIdx? (·.1)=none:=by rfl):PG X (.Tuple es k pos) (GK K n t):=hK ▸ Fh hc h hn hst
theorem Ck{tg l:Nh}{tl:TE}(h:X.K=K)(hl:PE X l tl):PI X tg l (GM K tl):=h ▸ Fi hl
theorem zQ{tg l:Nh}{tl:TE}(h:X.K=K)(hl:PE X l tl):PI X tg l (Dm K tl):=h ▸ Cj hl
end
instance:Inhabited lQ:=⟨⟨0,1,1,1,0⟩⟩
def aT.tie(W:aT)(k:Int):lQ:=W.ties.getD k.toNat default
def aT.has(W:aT)(k thing:Int):Bool:=(W.tie k).one==thing || (W.tie k).other==thing
def aT.many(W:aT)(asked:List Int)(thing:Int):Int:=((asked.filter fun k=>W.has k thing).length:Nat)
def aT.bears(W:aT)(asked taken:List Int)(thing:Int):Bool:= !taken.contains thing&&decide (W.many asked thing < W.pat.getD thing.toNat 0)
def aT.may(W:aT)(asked taken:List Int)(k:Int):Bool:= !(asked.contains k || decide (W.asks≤(asked.length:Int)))&&(W.bears asked taken (W.tie k).one&&W.bears asked taken (W.tie k).other)
def aT.askd(asked:List Int)(k:Int):List Int:=io (asked++[k])
def aT.took(W:aT)(taken:List Int)(k:Int)(truth:Bool):List Int:=if truth then io (taken++[(W.tie k).one,(W.tie k).other]) else taken
def aT.rng(W:aT):List Int:=(Pm W.ties.length).map Int.ofNat
def gU(W:aT)(k:Int):Prop:=0≤k∧k < (W.ties.length:Int)
theorem gU.get{W:aT}{k:Int}(h:gU W k):W.ties[k.toNat]?=some (W.tie k):=by
  have hk:k.toNat < W.ties.length:=by have:=h.1;have:=h.2;lia
  unfold aT.tie
  rw [Rb,OF hk];rfl
theorem gU.ok{W:aT}{k:Int}(h:gU W k)(o:W.Ok):(W.tie k).Ok W.things:=o.ties _ (Nb h.get)
theorem Iz{W:aT}{k:Int}:k∈W.rng↔ gU W k:=by
  unfold aT.rng gU
  rw [PZ]
  constructor
  · rintro⟨n,hn,rfl⟩
    have:=Qa.mp hn
    exact⟨Int.natCast_nonneg n,by simp;lia⟩
  · rintro⟨h0,h1⟩
    exact⟨k.toNat,Qa.mpr (by lia),by simp;lia⟩
def DT(K:Ng)(H:Hp)(v:V)(asked taken:List Int):Prop:=∃a b c,v=.ref a∧dW K H a [.ref b,.ref c]∧dW K H b (asked.map V.int)∧dW K H c (taken.map V.int)
theorem DT.ts{K:Ng}{H H':Hp}(s:mv H H'){v:V}{asked taken:List Int}(h:DT K H v asked taken):DT K H' v asked taken:=by
  obtain⟨a,b,c,e,h1,h2,h3⟩:=h
  exact⟨a,b,c,e,s.tup h1,s.tup h2,s.tup h3⟩
section
variable{K:Ng}{σ:L2.St}{H:Hp}{Q:VK}{i j:Nat}{vW:V}{W:aT}{k:Int}
end
def DG(k:Int):Prop:= -1000000≤k∧k≤1000000
def Dk(n dep:Nat)(d:Nf):Prop:=d.showable=true∧oU d=true∧L2.cnt d≤n∧d.depth≤dep
theorem Dk.mono{n m dep e:Nat}{d:Nf}(h:Dk n dep d)(h1:n≤m)(h2:dep≤e):Dk m e d:=⟨h.1,h.2.1,NR h.2.2.1 h1,NR h.2.2.2 h2⟩
theorem Dk.int{k:Int}(h:DG k):Dk 1 2 (.int k):=by
  refine⟨?_,rfl,NA _,by simp [Ot]⟩
  show decide (k.natAbs.log2 < 1920)=true
  rw [decide_eq_true_eq]
  exact Nat.lt_trans ((show Bt 64 k by have:=h.1;have:=h.2;unfold Bt;lia).log (by decide)) (by decide)
theorem Dk.bool(b:Bool):Dk 1 2 (.bool b):=⟨rfl,rfl,NA _,by simp [Ot]⟩
theorem Dk.none:Dk 1 2 .none:=⟨rfl,rfl,NA _,by simp [Ot]⟩
theorem Dk.all{n dep:Nat}:∀{ds:List Nf},(∀d∈ds,Dk n dep d)→QE ds=true∧hX ds=true∧j8 ds≤ds.length*n∧OW ds≤dep
  | [],_=>⟨rfl,rfl,by simp [j8],by simp [OW]⟩
  | d::r,h=>by
    obtain⟨a1,a2,a3,a4⟩:=h d (by simp)
    obtain⟨b1,b2,b3,b4⟩:=Dk.all (ds:=r) fun x hx=>h x (by simp [hx])
    refine⟨?_,?_,?_,?_⟩
    · simp only [QE,a1,b1,Bool.and_self]
    · simp only [hX,a2,b2,Bool.and_self]
    · simp only [j8,OO,Nat.succ_mul]
      lia
    · simp only [OW];lia
theorem Dk.tup{n dep m:Nat}{ds:List Nf}(h:∀d∈ds,Dk n dep d)(hl:ds.length≤m):Dk (1+m*n) (dep+2) (.tuple ds):=by
  obtain⟨b1,b2,b3,b4⟩:=Dk.all h
  refine⟨b1,b2,?_,?_⟩
  · simp only [L2.cnt]
    have:=Nat.mul_le_mul_right n hl
    lia
  · simp only [Ot];lia
theorem Dk.ok{n dep:Nat}{d:Nf}(h:Dk n dep d)(h1:n≤8000)(h2:dep≤60):d.showable=true∧d.depth≤60∧d.shown.length≤Ny:=by
  have:=qT h.2.1 h.1
  have sl:Ny=16777216:=Oh
  have:=h.2.2.1
  exact⟨h.1,NR h.2.2.2 h2,by lia⟩
theorem Dk.ints{ns:List Int}{m:Nat}(hl:ns.length≤m)(h:∀r∈ns,DG r):Dk (1+m) 4 (.tuple (ns.map .int)):=by
  have:=Dk.tup (n:=1) (dep:=2) (m:=m) (ds:=ns.map PyData.int) (fun d hd=>by
    obtain⟨x,hx,rfl⟩:=M' hd
    exact Dk.int (h x hx)) (by rw [NN];exact hl)
  simpa using this
section
variable{K:Ng}{H:Hp}
theorem Dk.bools{ns:List Bool}{m:Nat}(hl:ns.length≤m):Dk (1+m) 4 (.tuple (ns.map .bool)):=by
  have:=Dk.tup (n:=1) (dep:=2) (m:=m) (ds:=ns.map PyData.bool) (fun d hd=>by
    obtain⟨x,hx,rfl⟩:=M' hd
    exact Dk.bool x) (by rw [NN];exact hl)
  simpa using this
def bW(t:lQ):Nf:=.tuple [.int t.one,.int t.other,.tuple [.int t.top,.int t.bot],.int t.worth]
def aA(W:aT):Nf:=.tuple [.int W.things,.tuple (W.ties.map bW),.tuple (W.pat.map .int),.int W.asks]
def dS(asked taken:List Int):Nf:=.tuple [.tuple (asked.map .int),.tuple (taken.map .int)]
end
theorem yt:∀{bs:List Bool} {us:List Kz} {i:Nat} {v:Kz},aS (bs.map V.bl) us→us[i]?=some v→∃b,bs[i]?=some b∧v=.bool b
  | [],us,i,v,r,e=>by cases r;simp at e
  | b::bs,us,i,v,r,e=>by
    cases r with
    | cons p q=>
      cases i with
      | zero=>simp at e;subst e;cases p;exact⟨b,rfl,rfl⟩
      | succ i=>
        obtain⟨c,h1,h2⟩:=yt (bs:=bs) (i:=i) (v:=v) q (by simpa using e)
        exact⟨c,by simpa using h1,h2⟩
theorem CC(bs:List Bool):((Pm bs.length).all fun i=>(bs[i]?).getD true)=bs.all id:=by
  rw [QH,NV,NV]
  constructor
  · intro h b hb
    obtain⟨i,hi,rfl⟩:=List.getElem_of_mem hb
    have:=h i (Qa.mpr hi)
    rw [OF hi] at this
    exact this
  · intro h i hi
    have hi':=Qa.mp hi
    rw [OF hi']
    exact h _ (QI hi')
section
variable{X:Cx}
theorem yB{k:Nat}{K:Ng}(hr:bK k X.A)(hK:X.K=K):cQ X (.builtin "all") (fun xs H Q=>∃(l:xM) (bs:List Bool),xs=[.ref l]∧iu K H l (bs.map V.bl)∧Q (.bl (bs.all id)) H):=by
  intro pins s σ H xs us Q I r h
  subst hK
  obtain⟨l,bs,rfl,hs,q⟩:=h
  obtain⟨u,rfl,ru⟩:=iW r
  cases ru
  obtain⟨its,rv,p,hz⟩:=I.list hs
  have hl:=p.isList
  have lt:l < s.heap.objs.size:=by obtain⟨_,e,_⟩:=hl;exact NG e
  refine PySem.call_all_walk (wpAny_pyIter_list hl ?_)
  refine⟨s.heap.objs.size,[s.heap.objs.size,l],[s.heap.objs.size],its.toArray.size,_,_,fun i=>(bs[i]?).getD true,rfl,Walks.list (A:=X.A.in1) hr.hd _ l (Oq lt) its.toArray,⟨⟨_,Oo _ rfl,rfl,rfl⟩,hl.push _⟩,fun i v s' Q' E' hP hQ=>?_,fun h' tk hk=>?_⟩
  · obtain⟨b,e,rfl⟩:=yt rv (by simpa using hP)
    simp only [e,QF] at hQ
    exact Qb hQ
  · have e:its.toArray.size=bs.length:=by have:=rv.length;rw [NN] at this;simpa using this.symm
    rw [e,CC]
    refine⟨.bl (bs.all id),H,I.kept fun b x e=>hk b x (fun hm=>?_) (NS _ e),rfl,q⟩
    rw [NX.mp hm] at e
    exact Ph _ (NG e)
end
theorem yw:ON "all"=some (.builtin "all"):=by decide+kernel
section
variable{prog:Nl}{w:Nj}{A:Nn}{E:Kz→Nc→Prop}{s:Nc}
end
structure Sc (prog:Nl) (w:Nj) (it l:xM) (St:Nat→Nk→Prop) (Sq:Nk→Array Kz→Prop):Prop where
  stay:∀{k h h'},St k h→(∀o,h.get? it=some o→h'.get? it=some o)→St k h'
  live:∀{k h},St k h→∃o,h.get? it=some o∧∀v,o.data≠.cell v
  row:∀{h h' xs},Sq h xs→(∀o,h.get? l=some o→h'.get? l=some o)→Sq h' xs
  next:∀{A:Nn} {s:Nc} {E:Kz→Nc→Prop} {Q:Kz→Nc→Prop} {k:Nat} {xs:Array Kz} {x:Kz},St k s.heap→Sq s.heap xs→xs[k]?=some x→(∀g,St (k+1) g→PQ it s.heap g→Q x {s with heap:=g})→Np (Nr prog w) A (Rw (.ref it)) Q E s
  last:∀{A:Nn} {s:Nc} {E:Kz→Nc→Prop} {Q:Kz→Nc→Prop} {k:Nat} {xs:Array Kz},A.handled=none→St k s.heap→Sq s.heap xs→xs[k]?=none→(∀g e,Heap.ExtBut it s.heap g→(∃o,g.get? e=some o∧o.cls=.type "StopIteration")→E (.ref e) {s with heap:=g})→Np (Nr prog w) A (Rw (.ref it)) Q E s
structure JH (z TI TO i1 i2 l1 l2:xM):Prop where
  a1:TO≠z
  a2:i1≠z
  a3:i2≠z
  a4:TO≠i1
  a5:TO≠i2
  a6:i1≠i2
  b1:l1≠z
  b2:l1≠TO
  b3:l1≠i1
  b4:l1≠i2
  c1:l2≠z
  c2:l2≠TO
  c3:l2≠i1
  c4:l2≠i2
section
variable{prog:Nl}{w:Nj}{A:Nn}{E:Kz→Nc→Prop}{s:Nc}{z TI TO i1 i2 l1 l2:xM}{k:Nat}{xs ys:Array Kz}{a b:Kz}{S1 S2:Nat→Nk→Prop}{R1 R2:Nk→Array Kz→Prop}
end
section
variable{X:Cx}{pins:List (xM × Obj)}{σ:L2.St}{H:Hp}{s:Nc}{h':Nk}
end
section
variable{prog:Nl}{w:Nj}{A:Nn}{E:Kz→Nc→Prop}{s:Nc}
end
def DP(h:Nk)(z TI TO:xM)(a:xM)(f:Bool):Prop:=h.get? z=some {cls:=.type "zip",data:=.fields #[rawInt a,.bool f,.bool false,.ref TI,.ref TO]}
section
variable{prog:Nl}{w:Nj}{A:Nn}{E:Kz→Nc→Prop}{s:Nc}{z TI TO i1 i2 l1 l2:xM}{k:Nat}{xs ys:Array Kz}{a:xM}{f:Bool}{S1 S2:Nat→Nk→Prop}{R1 R2:Nk→Array Kz→Prop}
end
structure ZL (S z TI TO i1 i2 l1 l2:xM) (xs ys:Array Kz) (i:Nat) (h:Nk):Prop where
  pr:IsPair h TI (.ref i1) (.ref i2)
  t1:h.IsTupleIter i1 l1 i
  t2:h.IsTupleIter i2 l2 i
  s1:h.IsTuple l1 xs
  s2:h.IsTuple l2 ys
  ot:∃o,h.get? TO=some o
  zs:(IsZip h z TI TO .none∧∃a b,IsPair h TO a b)∨∃a f oa,DP h z TI TO a f∧h.get? a=some oa∧a≠S∧a≠z∧a≠i1∧a≠i2
structure JG (S z TO i1 i2:xM) (xs ys:Array Kz) (h:Nk) (acc:Array Kz) (i:Nat):Prop where
  sz:acc.size=i
  at_:∀(j:Nat) (v:Kz),acc[j]?=some v→∃(p:xM) (x y:Kz),v=.ref p∧xs[j]?=some x∧ys[j]?=some y∧IsPair h p x y∧p≠S∧p≠z∧p≠TO∧p≠i1∧p≠i2
  lo:∀(j:Nat) (p:xM),acc[j]?=some (.ref p)→S < p
  Kg:∀(i j:Nat) (p q:xM),i < j→acc[i]?=some (.ref p)→acc[j]?=some (.ref q)→p < q
section
variable{prog:Nl}{w:Nj}{A:Nn}{R:Result→Nc→Prop}{S z TI TO i1 i2 l1 l2:xM}{xs ys:Array Kz}{n:Nat}
end
section
variable{X:Cx}{pins:List (xM × Obj)}{σ:L2.St}{H H':Hp}{s:Nc}{h':Nk}
end
section
variable{prog:Nl}{w:Nj}{A:Nn}{E:Kz→Nc→Prop}{s:Nc}{e it l:xM}{k:Nat}{xs:Array Kz}{S:Nat→Nk→Prop}{R:Nk→Array Kz→Prop}
end
section
variable{X:Cx}{pins:List (xM × Obj)}{σ:L2.St}{H:Hp}{s:Nc}
end
section
variable{X:Cx}{a:Nh}{ta:TA}{p p2 pos pos2:Pos}
end
theorem xQ:fillsNumberSlot (.type "tuple") "mul"=pure false:=
  PySem.fillsNumberSlot_seq (id:="tuple.__mul__") (r:=some (.builtin "tuple.__rmul__")) Qk.lookup (by decide+kernel) F.slot_tuple_rmul.lookup (by decide+kernel)
theorem FQ:seqRepeat? (.type "tuple")=pure (some (.builtin "tuple.__mul__")):=by
  unfold seqRepeat?;rw [PySem.seqSlot_of (T:="tuple") (name:="__mul__") (id:="tuple.__mul__") Qk.lookup (by decide+kernel),PySem.seqSlot_of (T:="tuple") (name:="__rmul__") (id:="tuple.__rmul__") F.slot_tuple_rmul.lookup (by decide+kernel)];rfl
theorem CB(a:Int)(t:Tok)(l:xM)(items:Array Kz)(n:Nat)(dd:Option xM)(sl:Array (Option Kz)):
    Meets (Builtin.«int.__rmul__» ⟨[.int a t,.ref l],[]⟩) (fun _ R s=>s.heap.get? l=some {cls:=.type "tuple",dict:=dd,data:=.seq items n,slots:=sl}∧R (.ok (.ret Value.notImplemented)) s):=
  .of_wp fun prog w A R s h=>by obtain⟨hp,g,d,tk,os⟩:=s;obtain⟨hl,h⟩:=h;wp_walk;exact⟨_,rfl,h⟩
theorem EN(l:xM)(x:Kz)(n:Nat)(k:Int)(u:Tok)(dd:Option xM)(sl:Array (Option Kz))(h0:2≤k)(h1:k≤100000):
    Meets (Builtin.«tuple.__mul__» ⟨[.ref l,.int k u],[]⟩) (fun _ R s=>s.heap.get? l=some {cls:=.type "tuple",dict:=dd,data:=.seq #[x] n,slots:=sl}∧
      R (.ok (.ret (.ref s.heap.objs.size))) {s with heap:=s.heap.push {cls:=.type "tuple",data:=.seq (Nv k.toNat x).toArray}}):=
  .of_wp fun prog w A R s h=>by
    obtain⟨hp,g,d,tk,os⟩:=s;obtain⟨hl,h⟩:=h
    have f1:=Re
    have c1:¬(decide (k < -(2 ^ 63)) || decide (k≥2 ^ 63))=true:=by simp;lia
    have c2:¬((#[x]:Array Kz).isEmpty || k==1)=true:=by simp;lia
    have c3:¬(decide (k≤0) || (#[x]:Array Kz).isEmpty)=true:=by simp;lia
    have c4:¬(((#[x]:Array Kz).size:Int)*k > (2 ^ 63 - 1) / 8):=by simp;lia
    have c5:¬Rf (((#[x]:Array Kz).size:Int)*k)=true:=by
      unfold Rf;rw [Oh];simp;lia
    wp_walk using PK hl
    rw [if_neg c1]
    wp_walk using PK hl
    rw [if_neg c2]
    wp_walk using PK hl
    rw [if_neg c3]
    wp_walk using PK hl
    rw [if_neg c4]
    show Np _ _ (if Rf (((#[x]:Array Kz).size:Int)*k)=true then _ else _) _ _ _
    rw [if_neg c5]
    have f0:∀(m:Nat) (acc:Array Kz),PX (fun x1 x2=>x1++x2) acc (Nv m #[x])=acc++(Nv m x).toArray:=by
      intro m
      induction m with
      | zero=>intro acc;simp
      | succ m ih=>intro acc;rw [Pq,List.foldl_cons,ih,Pq];apply Array.toList_inj.mp;simp
    have e:PX (fun x1 x2=>x1++x2) #[] (Nv k.toNat #[x])=(Nv k.toNat x).toArray:=by rw [f0];simp
    show Np _ _ (PV (PX (fun x1 x2=>x1++x2) #[] (Nv k.toNat #[x])) >>= fun v=>ret v) _ _ _
    rw [e]
    unfold PV
    refine Nu (Px ?_ (by show(Nv k.toNat x).toArray.size≤Ny;rw [NI,QW,Oh];lia))
    exact Nz ⟨_,rfl,h⟩
theorem BR(l:xM)(x:Kz)(n:Nat)(u:Tok)(dd:Option xM)(sl:Array (Option Kz)):
    Meets (Builtin.«tuple.__mul__» ⟨[.ref l,.int 0 u],[]⟩) (fun _ R s=>s.heap.get? l=some {cls:=.type "tuple",dict:=dd,data:=.seq #[x] n,slots:=sl}∧R (.ok (.ret (.ref s.heap.objs.size))) {s with heap:=s.heap.push {cls:=.type "tuple",data:=.seq #[]}}):=
  .of_wp fun prog w A R s h=>by
    obtain⟨hp,g,d,tk,os⟩:=s;obtain⟨hl,h⟩:=h;have f1:=Re
    have c2:¬((#[x]:Array Kz).isEmpty || (0:Int)==1)=true:=by simp
    wp_walk using PK hl
    first | rw [if_neg c2] | skip
    wp_walk using PK hl
    exact⟨_,rfl,h⟩
theorem BS(l:xM)(x:Kz)(n:Nat)(u:Tok)(dd:Option xM)(sl:Array (Option Kz)):
    Meets (Builtin.«tuple.__mul__» ⟨[.ref l,.int 1 u],[]⟩) (fun _ R s=>s.heap.get? l=some {cls:=.type "tuple",dict:=dd,data:=.seq #[x] n,slots:=sl}∧R (.ok (.ret (.ref l))) s):=
  .of_wp fun prog w A R s h=>by
    obtain⟨hp,g,d,tk,os⟩:=s;obtain⟨hl,h⟩:=h;have f1:=Re
    wp_walk using PK hl
    exact⟨_,rfl,h⟩
section
variable{X:Cx}
def Ah(K:Ng):R2:=fun x y H Q=>∃a k v,x=.ref a∧y=.int k∧dW K H a [v]∧0≤k∧k≤100000∧∀p H',ao H H'→dW K H' p (Nv k.toNat v)→Q (.ref p) H'
theorem Ca:gD X (NZ .Mult) (Ah X.K):=by
  intro pins s σ H x y v u Q I rx ry h
  obtain⟨a,k,z,rfl,rfl,ha,k0,k1,q⟩:=h
  cases rx
  obtain⟨t,rfl⟩:=ry
  obtain⟨its,r,p,hz⟩:=I.tuple ha
  obtain⟨uz,rfl,rz⟩:=iW r
  obtain⟨⟨cls,dd,data,sl⟩,ho,hc,n,hd⟩:=id p
  simp only at hc hd
  subst hc hd
  refine wpAny_binaryOp_repeat_ref (T:="tuple") (U:="int") (by decide) ⟨_,ho,rfl⟩ (fun s'=>Qj s' k t) xQ F.fills_int_mul QA FQ F.slot_int_index.lookup (OL QA (Qj s k t) F.entry_int_rmul (F.args_int_rmul_2 _ _) (CB k t a #[uz] n dd sl) ⟨ho,rfl,⟨_,ho,rfl⟩,?_⟩)
  have new:∀m:Nat,m=k.toNat→EP X pins σ Q (.ref s.heap.objs.size) {s with heap:=s.heap.push {cls:=.type "tuple",data:=.seq (Nv m uz).toArray},toks:=s.toks}:=fun m hm=>by
    have hf:H s.heap.objs.size=none:=I.hok.fresh (NA _)
    have vv:∀j:Nat,aS (Nv j z) (Nv j uz):=fun j=>by
      induction j with
      | zero=>exact .nil
      | succ j ih=>exact .cons rz ih
    refine⟨.ref s.heap.objs.size,_,I.laid (t':=s.toks) (o:=.tup (Nv m z)) (fun b ob q=>NS _ q) (NA _) ⟨by rw [QW,Oh];lia,_,vv m,rh.new _ _⟩,rfl,q _ _ (ao.new hf) (dW.of (by rw [ar,hm]))⟩
  rcases(by lia:k=0∨k=1∨2≤k) with e | e | e
  · subst e
    exact OL Qk ⟨_,ho,rfl⟩ F.entry_tuple_mul (F.args_tuple_mul_2 _ _) (BR a uz n t dd sl) ⟨ho,new 0 rfl⟩
  · subst e
    exact OL Qk ⟨_,ho,rfl⟩ F.entry_tuple_mul (F.args_tuple_mul_2 _ _) (BS a uz n t dd sl) ⟨ho,⟨.ref a,H,I,rfl,q a H (ao.refl H) ha⟩⟩
  · exact OL Qk ⟨_,ho,rfl⟩ F.entry_tuple_mul (F.args_tuple_mul_2 _ _) (EN a uz n k t dd sl e k1) ⟨ho,new _ rfl⟩
end
section
variable{prog:Nl}{w:Nj}{A:Nn}{E:Kz→Nc→Prop}{s:Nc}
end
section
variable{X:Cx}{a:Nh}{ta:TA}{p p2 p3 pos pos2 pos3:Pos}
end
section
variable{prog:Nl}{w:Nj}{A:Nn}{E:Kz→Nc→Prop}{s:Nc}
end
section
variable{X:Cx}{K:Ng}{es:List Nh}{k0:Nat}{tp:Pos}{a:Nh}{ta:TA}{p pos:Pos}
end
theorem xV{X:Cx}:gD X (Oc .IsNot) (fun x y H Q=>∃b c,x=.bl b∧y=.bl c∧Q (.bl (!(b==c))) H):=by
  intro pins s σ H x y v u Q I rx ry h
  obtain⟨b,c,rfl,rfl,q⟩:=h
  cases rx;cases ry
  refine wpAny_isNot_plain (by cases b<;>cases c<;>rfl) ⟨.bl (!(b==c)),H,I,?_,q⟩
  show Value.bool _=Value.bool _
  cases b<;>cases c<;>rfl
section
variable{prog:Nl}{w:Nj}{A:Nn}{E:Kz→Nc→Prop}{s:Nc}
end
section
variable{prog:Nl}{w:Nj}{A:Nn}{E:Kz→Nc→Prop}{s:Nc}
end
section
variable{prog:Nl}{w:Nj}{A:Nn}{E:Kz→Nc→Prop}{s:Nc}
end
inductive uT where
  | vi (k:Int)
  | vb (x:Bool)
  | vn
  | vp (a:xM) (p q:Int)
def uT.toV:uT→V
  | .vi k=>.int k
  | .vb x=>.bl x
  | .vn=>.non
  | .vp a _ _=>.ref a
def uT.toD:uT→Nf
  | .vi k=>.int k
  | .vb x=>.bool x
  | .vn=>.none
  | .vp _ p q=>.tuple [.int p,.int q]
def uT.ok(K:Ng)(F:Hp):uT→Prop
  | .vp a p q=>dW K F a [.int p,.int q]
  | _=>True
theorem uT.ok.mono{K:Ng}{F F':Hp}(h:ao F F'){a:uT}(q:a.ok K F):a.ok K F':=by
  cases a<;>first | exact h.tup q | trivial
mutual
def DA(K:Ng)(F:Hp):Nf→V→Prop
  | .none,v=>v=.non
  | .bool b,v=>v=.bl b
  | .int i,v=>v=.int i
  | .str x,v=>v=.str x
  | .tuple ds,v=>∃a xs,v=.ref a∧dW K F a xs∧aQ K F ds xs
  | .list ds,v=>∃a xs,v=.ref a∧iu K F a xs∧aQ K F ds xs
  | .dict kvs,v=>∃(a:xM) (m:List (Int × uT)),v=.ref a∧F a=some (.dK (m.map fun p=>(Sum.inl p.1,p.2.toV)))∧kvs=m.map (fun p=>(PyData.int p.1,p.2.toD))∧∀p∈m,p.2.ok K F
def aQ(K:Ng)(F:Hp):List Nf→List V→Prop
  | [],xs=>xs=[]
  | d::ds,xs=>∃x r,xs=x::r∧DA K F d x∧aQ K F ds r
end
mutual
theorem DA.mono{K:Ng}{F F':Hp}(h:ao F F'):∀{d:Nf} {v:V},DA K F d v→DA K F' d v
  | .none,_,q=>by simp only [DA] at q ⊢;exact q
  | .bool b,_,q=>by simp only [DA] at q ⊢;exact q
  | .int i,_,q=>by simp only [DA] at q ⊢;exact q
  | .str x,_,q=>by simp only [DA] at q ⊢;exact q
  | .tuple ds,_,q=>by
    simp only [DA] at q ⊢
    obtain⟨a,xs,e,s,r⟩:=q
    exact⟨a,xs,e,h.tup s,aQ.mono h r⟩
  | .list ds,_,q=>by
    simp only [DA] at q ⊢
    obtain⟨a,xs,e,s,r⟩:=q
    exact⟨a,xs,e,h.seq s,aQ.mono h r⟩
  | .dict _,_,q=>by
    simp only [DA] at q ⊢
    obtain⟨a,m,e,s,k,o⟩:=q
    exact⟨a,m,e,h _ _ s,k,fun p hp=>(o p hp).mono h⟩
theorem aQ.mono{K:Ng}{F F':Hp}(h:ao F F'):∀{ds:List Nf} {xs:List V},aQ K F ds xs→aQ K F' ds xs
  | [],_,q=>by simp only [aQ] at q ⊢;exact q
  | d::ds,_,q=>by
    simp only [aQ] at q ⊢
    obtain⟨x,r,e,a,b⟩:=q
    exact⟨x,r,e,DA.mono h a,aQ.mono h b⟩
end
section
variable{K:Ng}{F:Hp}
theorem aQ.len:∀{ds:List Nf} {xs:List V},aQ K F ds xs→ds.length=xs.length
  | [],_,q=>by simp only [aQ] at q;subst q;rfl
  | d::ds,_,q=>by
    simp only [aQ] at q
    obtain⟨x,r,e,a,b⟩:=q
    subst e
    simp [aQ.len b]
theorem aQ.get:∀{ds:List Nf} {xs:List V} {i:Nat} {d:Nf},aQ K F ds xs→ds[i]?=some d→∃v,xs[i]?=some v∧DA K F d v
  | [],_,_,_,_,h=>by simp at h
  | d::ds,_,i,d',q,h=>by
    simp only [aQ] at q
    obtain⟨x,r,e,a,b⟩:=q
    subst e
    cases i with
    | zero=>simp at h;subst h;exact⟨x,rfl,a⟩
    | succ i=>
      obtain⟨v,h1,h2⟩:=aQ.get (i:=i) b (by simpa using h)
      exact⟨v,by simpa using h1,h2⟩
theorem aQ.append:∀{ds es:List Nf} {xs ys:List V},aQ K F ds xs→aQ K F es ys→aQ K F (ds++es) (xs++ys)
  | [],_,_,_,q,s=>by simp only [aQ] at q;subst q;simpa using s
  | d::ds,es,_,ys,q,s=>by
    simp only [aQ] at q
    obtain⟨x,r,e,a,b⟩:=q
    subst e
    simp only [Pr,aQ]
    exact⟨x,_,rfl,a,aQ.append b s⟩
theorem aQ.one{d:Nf}{v:V}(h:DA K F d v):aQ K F [d] [v]:=by simp only [aQ];exact⟨_,_,rfl,h,rfl⟩
theorem aQ.nil:aQ K F [] []:=by simp only [aQ]
theorem aQ.cons{d:Nf}{v:V}{ds:List Nf}{vs:List V}(h:DA K F d v)(r:aQ K F ds vs):aQ K F (d::ds) (v::vs):=by simp only [aQ];exact⟨_,_,rfl,h,r⟩
theorem aQ.drop:∀{ds:List Nf} {xs:List V} (n:Nat),aQ K F ds xs→aQ K F (ds.drop n) (xs.drop n)
  | _,_,0,q=>q
  | [],_,n+1,q=>by simp only [aQ] at q;subst q;exact aQ.nil
  | d::ds,_,n+1,q=>by
    simp only [aQ] at q
    obtain⟨x,r,e,a,b⟩:=q
    subst e
    simpa using aQ.drop n b
theorem aQ.take:∀{ds:List Nf} {xs:List V} (n:Nat),aQ K F ds xs→aQ K F (ds.take n) (xs.take n)
  | _,_,0,q=>by simpa using aQ.nil
  | [],_,n+1,q=>by simp only [aQ] at q;subst q;exact aQ.nil
  | d::ds,_,n+1,q=>by
    simp only [aQ] at q
    obtain⟨x,r,e,a,b⟩:=q
    subst e
    simpa using aQ.cons a (aQ.take n b)
theorem aQ.erase:∀{ds:List Nf} {xs:List V} (n:Nat),aQ K F ds xs→aQ K F (ds.eraseIdx n) (xs.eraseIdx n)
  | [],_,_,q=>by simp only [aQ] at q;subst q;exact aQ.nil
  | e::ds,_,n,q=>by
    simp only [aQ] at q
    obtain⟨x,r,e,a,b⟩:=q
    subst e
    cases n with
    | zero=>exact b
    | succ n=>exact aQ.cons a (aQ.erase n b)
theorem aQ.ints:∀{ns:List Int} {xs:List V},aQ K F (ns.map .int) xs↔ xs=ns.map V.int
  | [],xs=>by simp [aQ]
  | n::ns,xs=>by
    simp only [NP,aQ,DA]
    constructor
    · rintro⟨x,r,e,rfl,q⟩;rw [e,aQ.ints.mp q]
    · rintro rfl;exact⟨_,_,rfl,rfl,aQ.ints.mpr rfl⟩
theorem aQ.bools:∀{ns:List Bool} {xs:List V},aQ K F (ns.map .bool) xs↔ xs=ns.map V.bl
  | [],xs=>by simp [aQ]
  | n::ns,xs=>by
    simp only [NP,aQ,DA]
    constructor
    · rintro⟨x,r,e,rfl,q⟩;rw [e,aQ.bools.mp q]
    · rintro rfl;exact⟨_,_,rfl,rfl,aQ.bools.mpr rfl⟩
theorem bS{i:Int}{v:V}:DA K F (.int i) v↔ v=.int i:=by simp only [DA]
theorem cX{b:Bool}{v:V}:DA K F (.bool b) v↔ v=.bl b:=by simp only [DA]
theorem eu{v:V}:DA K F .none v↔ v=.non:=by simp only [DA]
theorem iI{x:Str}{v:V}:DA K F (.str x) v↔ v=.str x:=by simp only [DA]
theorem df{ds:List Nf}{v:V}:DA K F (.tuple ds) v↔ ∃a xs,v=.ref a∧dW K F a xs∧aQ K F ds xs:=by simp only [DA]
theorem eV{ds:List Nf}{v:V}:DA K F (.list ds) v↔ ∃a xs,v=.ref a∧iu K F a xs∧aQ K F ds xs:=by simp only [DA]
end
inductive Sv where
  | d (x:Nf)
  | l (xs:List Nf)
  /-- a list of lists that nobody else holds -/
  | n (xss:List (List Nf))
abbrev En:=List (Option Sv)
inductive Rv where
  | d (x:Nf)
  | l (xs:List Nf)
  | s (i:Nat)
def Fp(σ:L2.St)(e:En)(H:Hp)(i:Nat)(a:xM):Prop:=(∃xs:List Nf,e[i]?=some (some (Sv.l xs))∧σ[i]?=some (some (.ref a)))∨
  ∃(xss:List (List Nf)) (l:xM) (bs:List xM),e[i]?=some (some (Sv.n xss))∧σ[i]?=some (some (.ref l))∧H l=some (.lst (bs.map V.ref))∧(a=l∨a∈bs)
def bz(σ:L2.St)(e:En)(H:Hp)(a:xM):Prop:=∃i,Fp σ e H i a
structure aW (K:Ng) (F H:Hp) (σ:L2.St) (e:En):Prop where
  sm:ao F H
  len:σ.length=e.length
  dat:∀(i:Nat) (x:Nf),e[i]?=some (some (.d x))→∃v,σ[i]?=some (some v)∧DA K F x v
  own:∀(i:Nat) (xs:List Nf),e[i]?=some (some (.l xs))→∃l vs,σ[i]?=some (some (.ref l))∧F l=none∧H l=some (.lst vs)∧aQ K F xs vs
  nst:∀(i:Nat) (xss:List (List Nf)),e[i]?=some (some (.n xss))→∃(l:xM) (bs:List xM),σ[i]?=some (some (.ref l))∧F l=none∧H l=some (.lst (bs.map V.ref))∧bs.length=xss.length∧bs.Nodup∧l∉bs∧
    ∀(k:Nat) (b:xM) (ys:List Nf),bs[k]?=some b→xss[k]?=some ys→F b=none∧∃us,H b=some (.lst us)∧aQ K F ys us
  fp:∀(i j:Nat) (a:xM),Fp σ e H i a→Fp σ e H j a→i=j
theorem aW.inj{K:Ng}{F H:Hp}{σ:L2.St}{e:En}(R:aW K F H σ e)(i j:Nat)(xs ys:List Nf)(l:xM)(h1:e[i]?=some (some (.l xs)))(h2:e[j]?=some (some (.l ys)))(h3:σ[i]?=some (some (.ref l)))(h4:σ[j]?=some (some (.ref l))):i=j:=R.fp i j l (.inl ⟨xs,h1,h3⟩) (.inl ⟨ys,h2,h4⟩)
theorem aW.fpAt{K:Ng}{F H:Hp}{σ:L2.St}{e:En}(R:aW K F H σ e){i:Nat}{a:xM}(h:Fp σ e H i a):F a=none∧∃vs,H a=some (.lst vs):=by
  rcases h with ⟨xs,h1,h2⟩ | ⟨xss,l,bs,h1,h2,h3,h4⟩
  · obtain⟨l,vs,g1,g2,g3,_⟩:=R.own i xs h1
    rw [h2] at g1;cases g1
    exact⟨g2,vs,g3⟩
  · obtain⟨l',bs',g1,g2,g3,g4,g5,g6,g7⟩:=R.nst i xss h1
    rw [h2] at g1;cases g1
    rw [h3] at g3
    have e1:bs=bs':=by
      have:=HO.lst.inj (Ox g3)
      exact List.map_inj_right (fun _ _ z=>V.ref.inj z) |>.mp this
    subst e1
    rcases h4 with rfl | h4
    · exact⟨g2,_,h3⟩
    · obtain⟨k,hk⟩:=List.getElem?_of_mem h4
      have hk2:k < xss.length:=by rw [←g4];exact(M9 hk).1
      obtain⟨c1,us,c2,_⟩:=g7 k a xss[k] hk (OF hk2)
      exact⟨c1,us,c2⟩
def Dn:HO→Bool
  | .dK _=>true
  | .ins _ _ _=>true
  | _=>false
abbrev DI:={o:HO // Dn o=true}
structure cW (σ:L2.St) (F H:Hp) (e:En) (F' H':Hp) (e':En):Prop where
  sf:ao F F'
  dom:∀a,H' a=none→H a=none
  fr:∀a vs,F a=none→H a=some (.lst vs)→¬bz σ e H a→F' a=none
  lst:∀a vs,H a=some (.lst vs)→∃vs',H' a=some (.lst vs')
  tmp:∀a o,H a=some o→¬bz σ e H a→H' a=some o
  shp:∀i:Nat,(∃xs,e'[i]?=some (some (.l xs)))↔ (∃xs,e[i]?=some (some (.l xs)))
  ow:∀a,bz σ e' H' a→bz σ e H a∨H a=none
  fd:∀a (m:DI),F a=none→H a=some m.1→¬bz σ e H a→F' a=none
theorem cW.refl(σ:L2.St)(F H:Hp)(e:En):cW σ F H e F H e:=⟨ao.refl _,fun _ h=>h,fun _ _ h _ _=>h,fun _ vs h=>⟨vs,h⟩,fun _ _ h _=>h,fun _=>Iff.rfl,fun _ h=>.inl h,fun _ _ h _ _=>h⟩
theorem cW.trans{σ:L2.St}{F H F1 H1 F2 H2:Hp}{e e1 e2:En}(x:cW σ F H e F1 H1 e1)(y:cW σ F1 H1 e1 F2 H2 e2):cW σ F H e F2 H2 e2:=
  ⟨x.sf.trans y.sf,fun a h=>x.dom a (y.dom a h),fun a vs h n no=>let ⟨vs',q⟩:=x.lst a vs n;y.fr a vs' (x.fr a vs h n no) q (fun z=>(x.ow a z).elim no fun z=>by rw [n] at z;cases z),fun a vs h=>let ⟨vs',q⟩:=x.lst a vs h;y.lst a vs' q,
    fun a o h n=>y.tmp a o (x.tmp a o h n) (fun z=>(x.ow a z).elim n fun z=>by rw [h] at z;cases z),fun i=>(y.shp i).trans (x.shp i),fun a h=>(y.ow a h).elim (x.ow a) fun z=>.inr (x.dom a z),fun a m h n no=>y.fd a m (x.fd a m h n no) (x.tmp a _ n no) (fun z=>(x.ow a z).elim no fun z=>by rw [n] at z;cases z)⟩
def ce(K:Ng)(σ:L2.St)(H0 F H:Hp)(e:En):Rv→V→Prop
  | .d x,v=>DA K F x v
  | .l xs,v=>∃l vs,v=.ref l∧H0 l=none∧F l=none∧H l=some (.lst vs)∧aQ K F xs vs∧¬bz σ e H l
  | .s i,v=>σ[i]?=some (some v)∧∃xs,e[i]?=some (some (.l xs))
section
variable{K:Ng}{σ:L2.St}{H0 F H F' H':Hp}{e e':En}{r:Rv}{v:V}
theorem ce.ext(h:ce K σ H0 F H e r v)(x:cW σ F H e F' H' e'):ce K σ H0 F' H' e' r v:=by
  cases r with
  | d y=>exact DA.mono x.sf h
  | l xs=>
    obtain⟨l,vs,e1,h1,h2,h3,h4,h5⟩:=h
    exact⟨l,vs,e1,h1,x.fr l _ h2 h3 h5,x.tmp l _ h3 h5,aQ.mono x.sf h4,fun z=>(x.ow l z).elim h5 fun z=>by rw [h3] at z;cases z⟩
  | s i=>exact⟨h.1,(x.shp i).mpr h.2⟩
theorem ce.weak{H1:Hp}(h:ce K σ H1 F H e r v)(d:∀a,H1 a=none→H0 a=none):ce K σ H0 F H e r v:=by
  cases r with
  | d y=>exact h
  | l xs=>
    obtain⟨l,vs,e1,h1,r⟩:=h
    exact⟨l,vs,e1,d l h1,r⟩
  | s i=>exact h
theorem aW.ownH(R:aW K F H σ e)(a:xM)(h:bz σ e H a):H a≠none:=by
  obtain⟨i,h⟩:=h
  obtain⟨_,vs,h2⟩:=R.fpAt h
  rw [h2];simp
theorem aW.freeF(R:aW K F H σ e){p:xM}(hp:H p=none):F p=none:=R.sm.free hp
theorem Bu(R:aW K F H σ e)(h:∀l bs,H l=some (.lst bs)→bz σ e H l→H' l=some (.lst bs)){i:Nat}{a:xM}:Fp σ e H' i a↔ Fp σ e H i a:=by
  have key:∀xss l,e[i]?=some (some (.n xss))→σ[i]?=some (some (.ref l))→H' l=H l:=fun xss l h1 h2=>by
    obtain⟨l',bs,g1,g2,g3,_⟩:=R.nst i xss h1
    rw [h2] at g1;cases g1
    rw [g3]
    exact h l _ g3 ⟨i,.inr ⟨xss,l,bs,h1,h2,g3,.inl rfl⟩⟩
  constructor
  · rintro(h1 | ⟨xss,l,bs,h1,h2,h3,h4⟩)
    · exact .inl h1
    · exact .inr ⟨xss,l,bs,h1,h2,by rw [←key xss l h1 h2];exact h3,h4⟩
  · rintro(h1 | ⟨xss,l,bs,h1,h2,h3,h4⟩)
    · exact .inl h1
    · exact .inr ⟨xss,l,bs,h1,h2,by rw [key xss l h1 h2];exact h3,h4⟩
theorem aW.keep(R:aW K F H σ e)(sF:ao F F')(sm:ao F' H')(hf:∀a,bz σ e H a→F' a=none)(hh:∀a o,bz σ e H a→H a=some o→H' a=some o):aW K F' H' σ e∧∀a,bz σ e H' a↔ bz σ e H a:=by
  have fs:∀{i a},Fp σ e H' i a↔ Fp σ e H i a:=fun{i a}=>Bu R fun l bs h1 h2=>hh l _ h2 h1
  refine⟨⟨sm,R.len,fun i x h=>let ⟨v,h1,h2⟩:=R.dat i x h;⟨v,h1,DA.mono sF h2⟩,fun i xs h=>?_,fun i xss h=>?_,fun i j a h1 h2=>R.fp i j a (fs.mp h1) (fs.mp h2)⟩,fun a=>⟨fun⟨i,h⟩=>⟨i,fs.mp h⟩,fun⟨i,h⟩=>⟨i,fs.mpr h⟩⟩⟩
  · obtain⟨l,vs,h1,h2,h3,h4⟩:=R.own i xs h
    have o:bz σ e H l:=⟨i,.inl ⟨xs,h,h1⟩⟩
    exact⟨l,vs,h1,hf l o,hh l _ o h3,h4.mono sF⟩
  · obtain⟨l,bs,h1,h2,h3,h4,h5,h6,h7⟩:=R.nst i xss h
    have o:bz σ e H l:=⟨i,.inr ⟨xss,l,bs,h,h1,h3,.inl rfl⟩⟩
    refine⟨l,bs,h1,hf l o,hh l _ o h3,h4,h5,h6,fun k b ys g1 g2=>?_⟩
    obtain⟨c1,us,c2,c3⟩:=h7 k b ys g1 g2
    have ob:bz σ e H b:=⟨i,.inr ⟨xss,l,bs,h,h1,h3,.inr (Nb g1)⟩⟩
    exact⟨hf b ob,us,hh b _ ob c2,c3.mono sF⟩
theorem aW.same(R:aW K F H σ e)(s:ao H H'):aW K F H' σ e∧cW σ F H e F H' e:=by
  obtain⟨R',o'⟩:=R.keep (ao.refl F) (R.sm.trans s) (fun a ⟨i,h⟩=>(R.fpAt h).1) fun a o _ h=>s a o h
  exact⟨R',⟨ao.refl _,fun a h=>s.free h,fun _ _ h _ _=>h,fun a vs h=>⟨vs,s _ _ h⟩,fun a o h _=>s a o h,fun _=>Iff.rfl,fun a h=>.inl ((o' a).mp h),fun _ _ h _ _=>h⟩⟩
theorem aW.freeze(R:aW K F H σ e){p:xM}{o:HO}(hF:F p=none)(hp:H p=some o)(hn:¬bz σ e H p):aW K (bw F p o) H σ e∧ao F (bw F p o):=by
  have sF:ao F (bw F p o):=ao.new hF
  refine⟨(R.keep sF (fun b u q=>?_) (fun a ha=>?_) fun _ _ _ h=>h).1,sF⟩
  · by_cases z:b=p
    · subst z;rw [ar] at q;cases q;exact hp
    · rw [av z] at q;exact R.sm _ _ q
  · obtain⟨i,hi⟩:=ha
    have z:a≠p:=fun z=>hn ⟨i,by rw [←z];exact hi⟩
    rw [av z];exact(R.fpAt hi).1
theorem aW.notOwn(R:aW K F H σ e){p:xM}{o:HO}(hp:H p=some o)(hl:∀vs,o≠.lst vs):¬bz σ e H p:=fun⟨i,h⟩=>by
  obtain⟨_,vs,g⟩:=R.fpAt h
  rw [hp] at g;cases g
  exact hl _ rfl
theorem aW.newT(R:aW K F H σ e){p:xM}{vs:List V}(hp:H p=none):aW K (bw F p (.tup vs)) (bw H p (.tup vs)) σ e∧cW σ F H e (bw F p (.tup vs)) (bw H p (.tup vs)) e:=by
  have hF:=R.freeF hp
  obtain⟨R1,X1⟩:=R.same (ao.new hp (o:=.tup vs))
  obtain⟨R2,s2⟩:=R1.freeze (p:=p) hF ar (R1.notOwn ar (fun _ z=>nomatch z))
  refine⟨R2,⟨s2,X1.dom,fun a ws h n _=>?_,X1.lst,X1.tmp,X1.shp,X1.ow,fun a ws h n _=>?_⟩⟩
  all_goals
    have z:a≠p:=fun z=>by rw [z,hp] at n;cases n
    rw [av z];exact h
theorem aW.sameOwn(R:aW K F H σ e)(s:ao H H')(a:xM):bz σ e H' a↔ bz σ e H a:=(R.keep (ao.refl F) (R.sm.trans s) (fun a ⟨i,h⟩=>(R.fpAt h).1) fun a o _ h=>s a o h).2 a
theorem aW.newL(R:aW K F H σ e){p:xM}{vs:List V}(hp:H p=none):aW K F (bw H p (.lst vs)) σ e∧cW σ F H e F (bw H p (.lst vs)) e∧F p=none∧¬bz σ e (bw H p (.lst vs)) p:=
  ⟨(R.same (ao.new hp)).1,(R.same (ao.new hp)).2,R.freeF hp,fun z=>R.ownH p ((R.sameOwn (ao.new hp) p).mp z) hp⟩
theorem aW.growT(R:aW K F H σ e){p:xM}{xs:List V}(s:ao H H')(hp:dW K H' p xs):∃F',aW K F' H' σ e∧cW σ F H e F' H' e∧dW K F' p xs:=by
  obtain⟨R1,X1⟩:=R.same s
  rcases hp with hp | hp
  · have key:∀o,H' p=some o→(∀vs,o≠.lst vs)→(∀m:DI,o≠m.1)→(∀G:Hp,G p=some o→Rd G p (.tup xs))→∃F',aW K F' H' σ e∧cW σ F H e F' H' e∧dW K F' p xs:=by
      intro o ho hl hm hr
      cases q:F p with
      | some u=>
        have:=R1.sm _ _ q
        rw [ho] at this;cases this
        exact⟨F,R1,X1,.inl (hr F q)⟩
      | none=>
        obtain⟨R2,s2⟩:=R1.freeze q ho (R1.notOwn ho hl)
        refine⟨_,R2,⟨s2,X1.dom,fun a ws h n _=>?_,X1.lst,X1.tmp,X1.shp,X1.ow,fun a ws h n _=>?_⟩,.inl (hr _ ar)⟩
        · have z:a≠p:=fun z=>by rw [z] at n;rw [s _ _ n] at ho;cases ho;exact hl _ rfl
          rw [av z];exact h
        · have z:a≠p:=fun z=>by rw [z] at n;rw [s _ _ n] at ho;cases ho;exact hm _ rfl
          rw [av z];exact h
    rcases hp with hp | ⟨ob,hp⟩
    · exact key _ hp (fun _ z=>nomatch z) (fun m z=>nomatch z ▸ m.2) fun G g=>.inl g
    · exact key _ hp (fun _ z=>nomatch z) (fun m z=>nomatch z ▸ m.2) fun G g=>.inr ⟨ob,g⟩
  · exact⟨F,R1,X1,.inr hp⟩
theorem ce.frozen(R:aW K F H σ e){xs:List Nf}(h:ce K σ H0 F H e (.l xs) v):∃F',aW K F' H σ e∧ao F F'∧DA K F' (.list xs) v∧(∀a,F a=none→H0 a≠none→F' a=none):=by
  obtain⟨l,vs,rfl,h1,h2,h3,h4,h5⟩:=h
  obtain⟨R2,s2⟩:=R.freeze h2 h3 h5
  refine⟨_,R2,s2,?_,fun a ha hn=>?_⟩
  · rw [eV]
    exact⟨l,vs,rfl,.inl (.inl ar),aQ.mono s2 h4⟩
  · have z:a≠l:=fun z=>hn (by rw [z];exact h1)
    rw [av z];exact ha
def dU(e:En):Rv→Option (Bool × List Nf)
  | .d (.tuple xs)=>some (false,xs)
  | .d (.list xs)=>some (true,xs)
  | .l xs=>some (true,xs)
  | .s i=>match e[i]? with
    | some (some (.l xs))=>some (true,xs)
    | _=>none
  | _=>none
theorem cN(R:aW K F H σ e)(h:ce K σ H0 F H e r v){b:Bool}{xs:List Nf}(q:dU e r=some (b,xs)):
    ∃p vs,v=.ref p∧aQ K F xs vs∧(if b=true then iu K H p vs else dW K H p vs):=by
  cases r with
  | d x=>
    cases x with
    | tuple ds=>
      cases q
      obtain⟨a,ys,e1,e2,e3⟩:=df.mp h
      exact⟨a,ys,e1,e3,R.sm.tup e2⟩
    | list ds=>
      cases q
      obtain⟨a,ys,e1,e2,e3⟩:=eV.mp h
      exact⟨a,ys,e1,e3,R.sm.seq e2⟩
    | _=>cases q
  | l ys=>
    cases q
    obtain⟨l,vs,e1,h1,h2,h3,h4,_⟩:=h
    exact⟨l,vs,e1,h4,.inl (.inl h3)⟩
  | s i=>
    obtain⟨h1,ys,h2⟩:=h
    simp only [dU,h2] at q
    cases q
    obtain⟨l,vs,e1,e2,e3,e4⟩:=R.own i _ h2
    rw [h1] at e1;cases e1
    exact⟨l,vs,rfl,e4,.inl (.inl e3)⟩
end
abbrev FE:=En→Option (Rv × En)
abbrev FT:=En→Option (Bool × En)
abbrev FA:=En→Option (List Rv × En)
def dB(K:Ng)(σ:L2.St)(H0 F H:Hp)(e:En):List Rv→List V→Prop
  | [],vs=>vs=[]
  | r::rs,vs=>∃v ws,vs=v::ws∧ce K σ H0 F H e r v∧dB K σ H0 F H e rs ws
def fE(K:Ng)(f:FE):TE:=fun σ H Q=>∃F e r e',aW K F H σ e∧f e=some (r,e')∧∀F' H' v,cW σ F H e F' H' e'→aW K F' H' σ e'→ce K σ H F' H' e' r v→Q v H'
def fT(K:Ng)(f:FT):TT:=fun σ H Q=>∃F e b e',aW K F H σ e∧f e=some (b,e')∧∀F' H',cW σ F H e F' H' e'→aW K F' H' σ e'→Q b H'
def fA(K:Ng)(f:FA):TA:=fun σ H Q=>∃F e rs e',aW K F H σ e∧f e=some (rs,e')∧∀F' H' vs,cW σ F H e F' H' e'→aW K F' H' σ e'→dB K σ H F' H' e' rs vs→Q vs H'
theorem PE.mono{X:Cx}{e:Nh}{t t':TE}(h:PE X e t)(m:∀σ H Q,t' σ H Q→t σ H Q):PE X e t':=fun pins s σ H Q I q=>h pins s σ H Q I (m σ H Q q)
theorem PT.mono{X:Cx}{e:Nh}{t t':TT}(h:PT X e t)(m:∀σ H Q,t' σ H Q→t σ H Q):PT X e t':=fun pins s σ H Q I q=>h pins s σ H Q I (m σ H Q q)
theorem PW.mono{X:Cx}{e:Nh}{t t':TT}(h:PW X e t)(m:∀σ H Q,t' σ H Q→t σ H Q):PW X e t':=fun wh pins s σ H Q I q=>h wh pins s σ H Q I (m σ H Q q)
theorem PA.mono{X:Cx}{es:List Nh}{t t':TA}(h:PA X es t)(m:∀σ H Q,t' σ H Q→t σ H Q):PA X es t':=fun pos pins s σ H Q I q=>h pos pins s σ H Q I (m σ H Q q)
section
variable{K:Ng}{σ:L2.St}{H0 F H F' H':Hp}{e e':En}
theorem dB.weak{H1:Hp}(d:∀a,H1 a=none→H0 a=none):∀{rs:List Rv} {vs:List V},dB K σ H1 F H e rs vs→dB K σ H0 F H e rs vs
  | [],_,h=>h
  | r::rs,_,h=>by
    obtain⟨v,ws,rfl,h1,h2⟩:=h
    exact⟨v,ws,rfl,h1.weak d,dB.weak d h2⟩
theorem cW.frz{F'':Hp}(x:cW σ F H e F' H' e')(s:ao F' F'')(h:∀a,F' a=none→H a≠none→F'' a=none):cW σ F H e F'' H' e':=
  ⟨x.sf.trans s,x.dom,fun a vs h1 h2 h3=>h a (x.fr a vs h1 h2 h3) (by rw [h2];simp),x.lst,x.tmp,x.shp,x.ow,fun a m h1 h2 h3=>h a (x.fd a m h1 h2 h3) (by rw [h2];simp)⟩
def gF:List Rv→Option (List Nf)
  | []=>some []
  | .d x::rs=>(gF rs).map (x::·)
  | .l xs::rs=>(gF rs).map (.list xs::·)
  | .s _::_=>none
theorem dB.frozen:∀{rs:List Rv} {vs:List V} {ds:List Nf} {F:Hp},aW K F H σ e→dB K σ H0 F H e rs vs→gF rs=some ds→
    ∃F',aW K F' H σ e∧ao F F'∧aQ K F' ds vs∧(∀a,F a=none→H0 a≠none→F' a=none)
  | [],_,_,F,R,h,q=>by
    cases q
    have h':_=[]:=h
    subst h'
    exact⟨F,R,ao.refl _,aQ.nil,fun _ h _=>h⟩
  | .d x::rs,_,ds,F,R,h,q=>by
    obtain⟨v,ws,rfl,h1,h2⟩:=h
    obtain⟨ds',q1,rfl⟩:=M8 q
    obtain⟨F',R',s',d',f'⟩:=dB.frozen R h2 q1
    exact⟨F',R',s',.cons (DA.mono s' h1) d',f'⟩
  | .l xs::rs,_,ds,F,R,h,q=>by
    obtain⟨v,ws,rfl,h1,h2⟩:=h
    obtain⟨ds',q1,rfl⟩:=M8 q
    obtain⟨F',R',s',d',f'⟩:=dB.frozen R h2 q1
    obtain⟨l,us,rfl,g1,g2,g3,g4,g5⟩:=h1
    cases hl:F' l with
    | none=>
      have h1':ce K σ H0 F' H e (.l xs) (.ref l):=⟨l,us,rfl,g1,hl,g3,aQ.mono s' g4,g5⟩
      obtain⟨F2,R2,s2,d2,f2⟩:=h1'.frozen R'
      exact⟨F2,R2,s'.trans s2,.cons d2 (aQ.mono s2 d'),fun a ha hn=>f2 a (f' a ha hn) hn⟩
    | some o=>
      have:=R'.sm _ _ hl
      rw [g3] at this;cases this
      exact⟨F',R',s',.cons (eV.mpr ⟨l,us,rfl,.inl (.inl hl),aQ.mono s' g4⟩) d',f'⟩
end
section
variable{X:Cx}{K:Ng}{a b c:Nh}{fa fb:FE}{ft fu:FT}{pos:Pos}{es:List Nh}{fs:FA}
def ab(i:Nat):FE:=fun e=>match e[i]? with
  | some (some (.d x))=>some (.d x,e)
  | some (some (.l _))=>some (.s i,e)
  | _=>none
def vC(x:Nf):FE:=fun e=>some (.d x,e)
theorem C0{i:Nat}{σ:L2.St}{H:Hp}{Q:VK}(h:fE K (ab i) σ H Q):pP i σ H Q:=by
  obtain⟨F,e,r,e',R,hf,q⟩:=h
  unfold ab at hf
  match h1:e[i]?,hf with
  | some (some (.d x)),hf=>
    cases hf
    obtain⟨v,h2,h3⟩:=R.dat i x h1
    exact⟨v,h2,q F H v (cW.refl _ _ _ _) R h3⟩
  | some (some (.n _)),hf=>cases hf
  | some (some (.l xs)),hf=>
    cases hf
    obtain⟨l,vs,h2,h3⟩:=R.own i xs h1
    exact⟨_,h2,q F H _ (cW.refl _ _ _ _) R ⟨h2,xs,h1⟩⟩
  | some none,hf=>cases hf
  | none,hf=>cases hf
theorem qv(i:Nat){x:Str}{pos:Pos}(hN:X.N[i]?=some x)(hv:Gx X.env.scope x)(hd:(x==("__debug__":Str))=false)(hcd:(x==("__classdict__":Str))=false):PE X (.Name x pos) (fE K (ab i)):=(aU hN hv hd hcd).mono fun _ _ _ h=>C0 h
theorem uK{x:Nf}{v:V}{σ:L2.St}{H:Hp}{Q:VK}(hx:∀F,DA K F x v)(h:fE K (vC x) σ H Q):tC v σ H Q:=by
  obtain⟨F,e,r,e',R,hf,q⟩:=h
  cases hf
  exact q F H v (cW.refl _ _ _ _) R (hx F)
theorem ae{i j pos}:PE X (.Constant (.int i) j pos) (fE K (vC (.int i))):=Fe.mono fun _ _ _ h=>uK (fun _=>bS.mpr rfl) h
theorem mK{b j pos}:PE X (.Constant (.bool b) j pos) (fE K (vC (.bool b))):=Hh.mono fun _ _ _ h=>uK (fun _=>cX.mpr rfl) h
theorem eX{j pos}:PE X (.Constant .none j pos) (fE K (vC .none)):=Ff.mono fun _ _ _ h=>uK (fun _=>eu.mpr rfl) h
theorem aI{x j pos}:PE X (.Constant (.str x) j pos) (fE K (vC (.str x))):=vH.mono fun _ _ _ h=>uK (fun _=>iI.mpr rfl) h
theorem wK{x:Str}{v:V}{u:Kz}{pos:Pos}{y:Nf}(hg:Gl X x)(hm:X.mg x=some u)(r:bE v u)(hy:∀F,DA K F y v)(hd:(x==("__debug__":Str))=false):PE X (.Name x pos) (fE K (vC y)):=(Cf hg hm r hd).mono fun _ _ _ h=>uK hy h
def gy(K:Ng)(r:R2)(g:En→Rv→Rv→Option Rv):Prop:=
  ∀(σ:L2.St) (H0 F H:Hp) (e:En) (x y z:Rv) (v u:V) (Q:VK),aW K F H σ e→ce K σ H0 F H e x v→ce K σ H0 F H e y u→g e x y=some z→
    (∀F' H' w,cW σ F H e F' H' e→aW K F' H' σ e→ce K σ H F' H' e z w→Q w H')→r v u H Q
def ay(g:En→Rv→Rv→Option Rv)(fa fb:FE):FE:=fun e=>(fa e).bind fun p=>(fb p.2).bind fun q=>(g q.2 p.1 q.1).map fun z=>(z,q.2)
theorem pV{r:R2}{g:En→Rv→Rv→Option Rv}(ho:gy K r g){σ:L2.St}{H:Hp}{Q:VK}(h:fE K (ay g fa fb) σ H Q):Gs r (fE K fa) (fE K fb) σ H Q:=by
  obtain⟨F,e,z,e2,R,hf,q⟩:=h
  unfold ay at hf
  obtain⟨⟨x,e1⟩,h1,hf⟩:=M7 hf
  obtain⟨⟨y,e2'⟩,h2,hf⟩:=M7 hf
  obtain⟨z',h3,hf⟩:=M8 hf
  cases hf
  refine⟨F,e,x,e1,R,h1,fun F1 H1 v X1 R1 A1=>⟨F1,e1,y,_,R1,h2,fun F2 H2 u X2 R2 A2=>?_⟩⟩
  have X12:=X1.trans X2
  refine ho σ H F2 H2 _ x y _ v u Q R2 (A1.ext X2) (A2.weak X1.dom) h3 fun F3 H3 w X3 R3 A3=>?_
  exact q F3 H3 w (X12.trans X3) R3 (A3.weak X12.dom)
theorem pd{op:Operator}{r:R2}{g:En→Rv→Rv→Option Rv}(hr:gD X (NZ op) r)(ho:gy K r g)(ha:PE X a (fE K fa))(hb:PE X b (fE K fb)):PE X (.BinOp a op b pos) (fE K (ay g fa fb)):=(Dt hr ha hb).mono fun _ _ _ h=>pV ho h
theorem Fx{op:CmpOp}{r:R2}{g:En→Rv→Rv→Option Rv}(hr:gD X (Oc op) r)(ho:gy K r g)(ha:PE X a (fE K fa))(hb:PE X b (fE K fb))(hm:OK op b=false):PE X (.Compare a [op] [b] pos) (fE K (ay g fa fb)):=(Ce hr ha hb hm).mono fun _ _ _ h=>pV ho h
theorem Hq{r:R2}{g:En→Rv→Rv→Option Rv}(hr:Bh X r)(ho:gy K r g)(ha:PE X a (fE K fa))(hb:PE X b (fE K fb))(hs:nA b):PE X (.Subscript a b pos) (fE K (ay g fa fb)):=(Ds hr ha hb hs).mono fun _ _ _ h=>pV ho h
def uS(g:En→Rv→Option Rv)(fa:FE):FE:=fun e=>(fa e).bind fun p=>(g p.2 p.1).map fun z=>(z,p.2)
def Gm(K:Ng)(r:V→Hp→VK→Prop)(g:En→Rv→Option Rv):Prop:=
  ∀(σ:L2.St) (H0 F H:Hp) (e:En) (x z:Rv) (v:V) (Q:VK),aW K F H σ e→ce K σ H0 F H e x v→g e x=some z→
    (∀F' H' w,cW σ F H e F' H' e→aW K F' H' σ e→ce K σ H F' H' e z w→Q w H')→r v H Q
theorem AY{r:V→Hp→VK→Prop}{g:En→Rv→Option Rv}(ho:Gm K r g){σ:L2.St}{H:Hp}{Q:VK}(h:fE K (uS g fa) σ H Q):JU r (fE K fa) σ H Q:=by
  obtain⟨F,e,z,e2,R,hf,q⟩:=h
  unfold uS at hf
  obtain⟨⟨x,e1⟩,h1,hf⟩:=M7 hf
  obtain⟨z',h3,hf⟩:=M8 hf
  cases hf
  refine⟨F,e,x,_,R,h1,fun F1 H1 v X1 R1 A1=>?_⟩
  refine ho σ H F1 H1 _ x _ v Q R1 A1 h3 fun F3 H3 w X3 R3 A3=>?_
  exact q F3 H3 w (X1.trans X3) R3 (A3.weak X1.dom)
theorem Hr{op:UnaryOp}{r:V→Hp→VK→Prop}{g:En→Rv→Option Rv}(hr:Ir X (unaryOp op) r)(ho:Gm K r g)(ha:PE X a (fE K fa)):PE X (.UnaryOp op a pos) (fE K (uS g fa)):=(Hi hr ha).mono fun _ _ _ h=>AY ho h
def de:Rv→Option Bool
  | .d (.bool b)=>some b
  | _=>none
theorem fw{σ:L2.St}{H0 F H:Hp}{e:En}{r:Rv}{v:V}{b:Bool}(h:ce K σ H0 F H e r v)(q:de r=some b):v=.bl b:=by
  unfold de at q
  split at q
  · cases q;exact cX.mp (show DA K F (.bool _) v from h)
  · cases q
theorem dN{σ:L2.St}{H0 F H:Hp}{e:En}{b:Bool}:ce K σ H0 F H e (.d (.bool b)) (.bl b):=(cX (K:=K) (F:=F)).mpr rfl
def az(f:FE):FT:=fun e=>(f e).bind fun p=>(de p.1).map fun b=>(b,p.2)
theorem uR{σ:L2.St}{H:Hp}{Q:Bool→Hp→Prop}(h:fT K (az fa) σ H Q):fE K fa σ H fun x H'=>∃k,x=.bl k∧Q k H':=by
  obtain⟨F,e,b,e1,R,hf,q⟩:=h
  unfold az at hf
  obtain⟨⟨x,e1'⟩,h1,hf⟩:=M7 hf
  obtain⟨b',h3,hf⟩:=M8 hf
  cases hf
  exact⟨F,e,x,_,R,h1,fun F1 H1 v X1 R1 A1=>⟨_,fw A1 h3,q F1 H1 X1 R1⟩⟩
theorem Fz{op:CmpOp}{r:R2}{g:En→Rv→Rv→Option Rv}(hr:gD X (Oc op) r)(ho:gy K r g)(ha:PE X a (fE K fa))(hb:PE X b (fE K fb))(hm:OK op b=false):PT X (.Compare a [op] [b] pos) (fT K (az (ay g fa fb))):=
  (wJ hr ha hb hm).mono fun σ H Q h=>by
    obtain⟨F,e,z,e2,R,hf,q⟩:=uR h
    exact pV ho ⟨F,e,z,e2,R,hf,q⟩
theorem gn{e:Nh}(h:PE X e (fE K fa))(he:∀whole,isTrue e X.env whole=(do let v ←whole;standAt e.pos;holding [v] (truthy v))):PT X e (fT K (az fa)):=(zY h he).mono fun _ _ _ h=>uR h
def mj(f g:FT):FT:=fun e=>(f e).bind fun p=>if p.1=true then g p.2 else some (false,p.2)
def uQ(f g:FT):FT:=fun e=>(f e).bind fun p=>if p.1=true then some (true,p.2) else g p.2
def ml(f:FT):FT:=fun e=>(f e).map fun p=>(!p.1,p.2)
theorem CW{σ:L2.St}{H:Hp}{Q:Bool→Hp→Prop}(h:fT K (mj ft fu) σ H Q):HN (fT K ft) (fT K fu) σ H Q:=by
  obtain⟨F,e,b,e1,R,hf,q⟩:=h
  unfold mj at hf
  obtain⟨⟨x,e1'⟩,h1,hf⟩:=M7 hf
  refine⟨F,e,x,e1',R,h1,fun F1 H1 X1 R1=>?_⟩
  cases x with
  | true=>exact⟨F1,e1',b,e1,R1,hf,fun F2 H2 X2 R2=>q F2 H2 (X1.trans X2) R2⟩
  | false=>cases hf;exact q F1 H1 X1 R1
theorem Gd{σ:L2.St}{H:Hp}{Q:Bool→Hp→Prop}(h:fT K (uQ ft fu) σ H Q):Jx (fT K ft) (fT K fu) σ H Q:=by
  obtain⟨F,e,b,e1,R,hf,q⟩:=h
  unfold uQ at hf
  obtain⟨⟨x,e1'⟩,h1,hf⟩:=M7 hf
  refine⟨F,e,x,e1',R,h1,fun F1 H1 X1 R1=>?_⟩
  cases x with
  | false=>exact⟨F1,e1',b,e1,R1,hf,fun F2 H2 X2 R2=>q F2 H2 (X1.trans X2) R2⟩
  | true=>cases hf;exact q F1 H1 X1 R1
theorem CY{σ:L2.St}{H:Hp}{Q:Bool→Hp→Prop}(h:fT K (ml ft) σ H Q):HW (fT K ft) σ H Q:=by
  obtain⟨F,e,b,e1,R,hf,q⟩:=h
  unfold ml at hf
  obtain⟨⟨x,e1'⟩,h1,hf⟩:=M8 hf
  cases hf
  exact⟨F,e,x,_,R,h1,fun F1 H1 X1 R1=>q F1 H1 X1 R1⟩
variable{cn:List Nh}
theorem sL(ha:PT X a (fT K ft)):PW X (.BoolOp .And [a] pos) (fT K ft):=Cu ha
theorem ko(ha:PT X a (fT K ft)):PW X (.BoolOp .Or [a] pos) (fT K ft):=zZ ha
theorem vM(ha:PT X a (fT K ft))(hb:PW X (.BoolOp .And (b::cn) pos) (fT K fu)):PW X (.BoolOp .And (a::b::cn) pos) (fT K (mj ft fu)):=(Fs ha hb).mono fun _ _ _ h=>CW h
theorem pj(ha:PT X a (fT K ft))(hb:PW X (.BoolOp .Or (b::cn) pos) (fT K fu)):PW X (.BoolOp .Or (a::b::cn) pos) (fT K (uQ ft fu)):=(Dv ha hb).mono fun _ _ _ h=>Gd h
theorem vL(ha:PT X a (fT K ft)):PT X (.UnaryOp .Not a pos) (fT K (ml ft)):=(zX ha).mono fun _ _ _ h=>CY h
theorem qf{e:Nh}(h:PW X e (fT K ft)):PT X e (fT K ft):=h.pt
def jH(f g:FE):FE:=fun e=>(f e).bind fun p=>(de p.1).bind fun b=>if b=true then g p.2 else some (.d (.bool false),p.2)
def vX(f g:FE):FE:=fun e=>(f e).bind fun p=>(de p.1).bind fun b=>if b=true then some (.d (.bool true),p.2) else g p.2
def pU(f:FE):FE:=fun e=>(f e).bind fun p=>(de p.1).map fun b=>(.d (.bool (!b)),p.2)
theorem z7(ha:PE X a (fE K fa))(hb:PE X (.BoolOp .And (b::cn) pos) (fE K fb)):PE X (.BoolOp .And (a::b::cn) pos) (fE K (jH fa fb)):=(Fb ha hb).mono fun σ H Q h=>by
  obtain⟨F,e,z,e2,R,hf,q⟩:=h
  unfold jH at hf
  obtain⟨⟨x,e1⟩,h1,hf⟩:=M7 hf
  obtain⟨b,h2,hf⟩:=M7 hf
  refine⟨F,e,x,e1,R,h1,fun F1 H1 v X1 R1 A1=>⟨b,fw A1 h2,?_⟩⟩
  cases b with
  | true=>exact⟨F1,e1,z,e2,R1,hf,fun F2 H2 w X2 R2 A2=>q F2 H2 w (X1.trans X2) R2 (A2.weak X1.dom)⟩
  | false=>cases hf;exact q F1 H1 _ X1 R1 dN
theorem z_{op}(h:PE X a (fE K fa)):PE X (.BoolOp op [a] pos) (fE K fa):=Fg h
def yi(t:FT)(f g:FE):FE:=fun e=>(t e).bind fun p=>if p.1=true then f p.2 else g p.2
theorem lC{c:Nh}(hc:PT X c (fT K ft))(ha:PE X a (fE K fa))(hb:PE X b (fE K fb)):PE X (.IfExp c a b pos) (fE K (yi ft fa fb)):=(uq hc ha hb).mono fun σ H Q h=>by
  obtain⟨F,e,z,e2,R,hf,q⟩:=h
  unfold yi at hf
  obtain⟨⟨x,e1⟩,h1,hf⟩:=M7 hf
  refine⟨F,e,x,e1,R,h1,fun F1 H1 X1 R1=>?_⟩
  cases x with
  | true=>exact⟨F1,e1,z,e2,R1,hf,fun F2 H2 w X2 R2 A2=>q F2 H2 w (X1.trans X2) R2 (A2.weak X1.dom)⟩
  | false=>exact⟨F1,e1,z,e2,R1,hf,fun F2 H2 w X2 R2 A2=>q F2 H2 w (X1.trans X2) R2 (A2.weak X1.dom)⟩
def ah:FA:=fun e=>some ([],e)
def aa(fa:FE)(fs:FA):FA:=fun e=>(fa e).bind fun p=>(fs p.2).map fun q=>(p.1::q.1,q.2)
theorem ac:PA X [] (fA K ah):=gR.mono fun σ H Q h=>by
  obtain⟨F,e,r,e',R,hf,q⟩:=h
  cases hf
  exact q F H [] (cW.refl _ _ _ _) R rfl
theorem Jo(ha:PE X a (fE K fa))(hr:PA X es (fA K fs))(h:PJ a=false):PA X (a::es) (fA K (aa fa fs)):=(vF ha hr h).mono fun σ H Q h=>by
  obtain⟨F,e,z,e2,R,hf,q⟩:=h
  unfold aa at hf
  obtain⟨⟨x,e1⟩,h1,hf⟩:=M7 hf
  obtain⟨⟨xs,e2'⟩,h2,hf⟩:=M8 hf
  cases hf
  refine⟨F,e,x,e1,R,h1,fun F1 H1 v X1 R1 A1=>⟨F1,e1,xs,_,R1,h2,fun F2 H2 vs X2 R2 A2=>?_⟩⟩
  exact q F2 H2 (v::vs) (X1.trans X2) R2 ⟨v,vs,rfl,A1.ext X2,A2.weak X1.dom⟩
def cz(fs:FA):FE:=fun e=>(fs e).bind fun p=>(gF p.1).bind fun ds=>if ds.length≤1000 then some (.d (.tuple ds),p.2) else none
def eU(fs:FA):FE:=fun e=>(fs e).bind fun p=>(gF p.1).bind fun ds=>if ds.length≤1000 then some (.l ds,p.2) else none
theorem bj{x1}(h:PA X es (fA K fs)):PE X (.Tuple es x1 pos) (fE K (cz fs)):=(zP h).mono fun σ H Q h=>by
  obtain⟨F,e,z,e2,R,hf,q⟩:=h
  unfold cz at hf
  obtain⟨⟨rs,e1⟩,h1,hf⟩:=M7 hf
  obtain⟨ds,h2,hf⟩:=M7 hf
  split at hf
  case isFalse=>cases hf
  case isTrue hl=>
  cases hf
  refine⟨F,e,rs,_,R,h1,fun F1 H1 vs X1 R1 A1=>?_⟩
  obtain⟨F2,R2,s2,d2,f2⟩:=dB.frozen R1 A1 h2
  have hlen:=d2.len
  refine⟨Pw (qU (by lia)),fun p hp=>?_⟩
  obtain⟨R3,X3⟩:=R2.newT (vs:=vs) hp
  exact q _ _ _ ((X1.frz s2 f2).trans X3) R3 (df.mpr ⟨p,vs,rfl,.inl (.inl ar),aQ.mono X3.sf d2⟩)
theorem cF(h:PA X es (fA K fs)):PE X (.List es pos) (fE K (eU fs)):=(vG h).mono fun σ H Q h=>by
  obtain⟨F,e,z,e2,R,hf,q⟩:=h
  unfold eU at hf
  obtain⟨⟨rs,e1⟩,h1,hf⟩:=M7 hf
  obtain⟨ds,h2,hf⟩:=M7 hf
  split at hf
  case isFalse=>cases hf
  case isTrue hl=>
  cases hf
  refine⟨F,e,rs,_,R,h1,fun F1 H1 vs X1 R1 A1=>?_⟩
  obtain⟨F2,R2,s2,d2,f2⟩:=dB.frozen R1 A1 h2
  have hlen:=d2.len
  refine⟨Pw (qU (by lia)),fun p hp=>?_⟩
  obtain⟨R3,X3,hF,no⟩:=R2.newL (vs:=vs) hp
  exact q _ _ _ ((X1.frz s2 f2).trans X3) R3 ⟨p,vs,rfl,X1.dom p hp,hF,ar,d2,no⟩
def cO(K:Ng)(r:List V→Hp→VK→Prop)(g:En→List Rv→Option Rv):Prop:=
  ∀(σ:L2.St) (H0 F H:Hp) (e:En) (xs:List Rv) (z:Rv) (vs:List V) (Q:VK),aW K F H σ e→dB K σ H0 F H e xs vs→g e xs=some z→
    (∀F' H' w,cW σ F H e F' H' e→aW K F' H' σ e→ce K σ H F' H' e z w→Q w H')→r vs H Q
def aF(g:En→List Rv→Option Rv)(fs:FA):FE:=fun e=>(fs e).bind fun p=>(g p.2 p.1).map fun z=>(z,p.2)
theorem uL{r:List V→Hp→VK→Prop}{g:En→List Rv→Option Rv}(ho:cO K r g){σ:L2.St}{H:Hp}{Q:VK}(h:fE K (aF g fs) σ H Q):IA r (fA K fs) σ H Q:=by
  obtain⟨F,e,z,e2,R,hf,q⟩:=h
  unfold aF at hf
  obtain⟨⟨x,e1⟩,h1,hf⟩:=M7 hf
  obtain⟨z',h3,hf⟩:=M8 hf
  cases hf
  refine⟨F,e,x,_,R,h1,fun F1 H1 vs X1 R1 A1=>?_⟩
  refine ho σ H F1 H1 _ x _ vs Q R1 A1 h3 fun F3 H3 w X3 R3 A3=>?_
  exact q F3 H3 w (X1.trans X3) R3 (A3.weak X1.dom)
theorem z9{x:Str}{p pos:Pos}{id:String}{r:List V→Hp→VK→Prop}{g:En→List Rv→Option Rv}(hc:cQ X (.builtin id) r)(ho:cO K r g)(hg:Gl X x)(hm:X.mg x=none)(hv:ON x=some (.builtin id))(ha:PA X (a::es) (fA K fs))(hn:x≠"__name__")(hdb:(x==("__debug__":Str))=false)
    (he:Nq (a::es) X.env=(false,Nt a X.env)::Nq es X.env)(hpl:(ND pos (Nq es X.env)).any (·.1)=false):PE X (.Call (.Name x p) (a::es) [] pos) (fE K (aF g fs)):=(oZ hc hg hm hv ha hn hdb he hpl).mono fun _ _ _ h=>uL ho h
theorem xZ{x:Str}{p pos:Pos}{T:String}{r:List V→Hp→VK→Prop}{g:En→List Rv→Option Rv}(hc:cQ X (.type T) r)(ho:cO K r g)(hg:Gl X x)(hm:X.mg x=none)(hv:ON x=some (.type T))(ha:PA X (a::es) (fA K fs))(hn:x≠"__name__")(hdb:(x==("__debug__":Str))=false)
    (he:Nq (a::es) X.env=(false,Nt a X.env)::Nq es X.env)(hpl:(ND pos (Nq es X.env)).any (·.1)=false):PE X (.Call (.Name x p) (a::es) [] pos) (fE K (aF g fs)):=(qN hc hg hm hv ha hn hdb he hpl).mono fun _ _ _ h=>uL ho h
end
mutual
theorem DA.reads{X:Cx}{pins:List (xM × Obj)}{σ:L2.St}{H:Hp}{s:Nc}(I:aH X pins σ H s):∀{d:Nf} {v:V} {u:Kz},d.canLay0=true→DA X.K H d v→bE v u→∃as,Reads s.heap u d as
  | .none,_,_,_,q,r=>by
    simp only [DA] at q;subst q;cases r;exact⟨_,.none⟩
  | .bool b,_,_,_,q,r=>by
    simp only [DA] at q;subst q;cases r;exact⟨_,.bool b⟩
  | .int i,_,_,_,q,r=>by
    simp only [DA] at q;subst q;obtain⟨t,rfl⟩:=r;exact⟨_,.int i t⟩
  | .str x,_,_,_,q,r=>by
    simp only [DA] at q;subst q;obtain⟨t,rfl⟩:=r;exact⟨_,.str x t⟩
  | .tuple ds,_,_,c,q,r=>by
    simp only [DA] at q
    obtain⟨a,xs,e,hs,rr⟩:=q
    subst e;cases r
    obtain⟨its,rv,⟨o,ho,hc,n,hd⟩,hz⟩:=I.tuple hs
    obtain⟨as,q⟩:=aQ.reads I (by simpa [Oa] using c) rr rv
    exact⟨_,.tuple ho hc hd q⟩
  | .list ds,_,_,c,q,r=>by
    simp only [DA] at q
    obtain⟨a,xs,e,hs,rr⟩:=q
    subst e;cases r
    obtain⟨its,rv,ht,hz⟩:=I.list hs
    obtain⟨o,ho,hc,n,hd⟩:=ht.isList
    obtain⟨as,q⟩:=aQ.reads I (by simpa [Oa] using c) rr rv
    exact⟨_,.list ho hc hd q⟩
  | .dict _,_,_,c,_,_=>by simp [Oa] at c
theorem aQ.reads{X:Cx}{pins:List (xM × Obj)}{σ:L2.St}{H:Hp}{s:Nc}(I:aH X pins σ H s):∀{ds:List Nf} {xs:List V} {us:List Kz},OG ds=true→aQ X.K H ds xs→aS xs us→∃as,ReadsAll s.heap us ds as
  | [],_,_,_,q,r=>by
    simp only [aQ] at q;subst q;cases r;exact⟨_,.nil⟩
  | d::ds,_,_,c,q,r=>by
    simp only [aQ] at q
    simp only [OG,Ol] at c
    obtain⟨x,rr,e,a,b⟩:=q
    subst e
    cases r with
    | cons p p'=>
      obtain⟨as,q1⟩:=DA.reads I c.1 a p
      obtain⟨bs,q2⟩:=aQ.reads I c.2 b p'
      exact⟨_,.cons q1 q2⟩
end
def gE(e:En):Rv→Option Nf
  | .d x=>some x
  | .l xs=>some (.list xs)
  | .s i=>match e[i]? with
    | some (some (.l xs))=>some (.list xs)
    | _=>none
theorem jq{K:Ng}{σ:L2.St}{H0 F H:Hp}{e:En}{r:Rv}{v:V}{d:Nf}(R:aW K F H σ e)(h:ce K σ H0 F H e r v)(q:gE e r=some d):DA K H d v:=by
  cases r with
  | d x=>cases q;exact DA.mono R.sm h
  | l xs=>
    cases q
    obtain⟨l,vs,rfl,h1,h2,h3,h4,_⟩:=h
    exact eV.mpr ⟨l,vs,rfl,.inl (.inl h3),aQ.mono R.sm h4⟩
  | s i=>
    obtain⟨h1,ys,h2⟩:=h
    simp only [gE,h2] at q
    cases q
    obtain⟨l,vs,e1,e2,e3,e4⟩:=R.own i _ h2
    rw [h1] at e1;cases e1
    exact eV.mpr ⟨l,vs,rfl,.inl (.inl e3),aQ.mono R.sm e4⟩
section
variable{X:Cx}{K:Ng}
def cC:Rv→Option Int
  | .d (.int i)=>some i
  | _=>none
theorem cT{σ:L2.St}{H0 F H:Hp}{e:En}{r:Rv}{v:V}{i:Int}(h:ce K σ H0 F H e r v)(q:cC r=some i):v=.int i:=by
  unfold cC at q
  split at q
  · cases q;exact bS.mp (show DA K F (.int _) v from h)
  · cases q
theorem pv{σ:L2.St}{H0 F H:Hp}{e:En}{i:Int}:ce K σ H0 F H e (.d (.int i)) (.int i):=(bS (K:=K) (F:=F)).mpr rfl
def gI(C:Int→Int→Bool)(f:Int→Int→Nf):En→Rv→Rv→Option Rv:=fun _ x y=>(cC x).bind fun i=>(cC y).bind fun j=>if C i j=true then some (.d (f i j)) else none
theorem um{C:Int→Int→Prop}{c:Int→Int→Bool}{g:Int→Int→V}{f:Int→Int→Nf}(hc:∀i j,c i j=true→C i j)(hf:∀F i j,DA K F (f i j) (g i j)):gy K (rI C g) (gI c f):=by
  intro σ H0 F H e x y z v u Q R A B hg q
  unfold gI at hg
  obtain⟨i,h1,hg⟩:=M7 hg
  obtain⟨j,h2,hg⟩:=M7 hg
  split at hg
  case isFalse=>cases hg
  case isTrue hh=>
  cases hg
  exact⟨i,j,cT A h1,cT B h2,hc i j hh,q F H _ (cW.refl _ _ _ _) R (hf F i j)⟩
theorem kj{g:Int→Int→V}{f:Int→Int→Nf}(hf:∀F i j,DA K F (f i j) (g i j)):gy K (x8 g) (gI (fun _ _=>true) f):=by
  intro σ H0 F H e x y z v u Q R A B hg q
  obtain⟨i,j,h1,h2,h3,h4⟩:=um (K:=K) (C:=fun _ _=>True) (c:=fun _ _=>true) (g:=g) (f:=f) (fun _ _ _=>trivial) hf σ H0 F H e x y z v u Q R A B hg q
  exact⟨i,j,h1,h2,h4⟩
def A_(g g':En→Rv→Rv→Option Rv):En→Rv→Rv→Option Rv:=fun e x y=>(g e x y).or (g' e x y)
theorem gy.or{r r':R2}{g g':En→Rv→Rv→Option Rv}(h:gy K r g)(h':gy K r' g'):gy K (fun x y H Q=>r x y H Q∨r' x y H Q) (A_ g g'):=by
  intro σ H0 F H e x y z v u Q R A B hg q
  unfold A_ at hg
  cases e1:g e x y with
  | some w=>
    rw [e1] at hg
    cases hg
    exact .inl (h σ H0 F H e x y _ v u Q R A B e1 q)
  | none=>
    rw [e1] at hg
    exact .inr (h' σ H0 F H e x y _ v u Q R A B hg q)
def ww:=gI (fun _ _=>true) fun i j=>.int (i+j)
def lY:=gI (fun _ _=>true) fun i j=>.int (i - j)
def i7(i:Int):Bool:=decide (-(2 ^ 64) < i)&&decide (i < 2 ^ 64)
def GF(n:Nat)(i:Int):Bool:=decide (i.natAbs < 2 ^ n)
theorem kP{n:Nat}{i:Int}:GF n i=true↔ Bt n i:=by unfold GF Bt;exact decide_eq_true_iff
def l9(i j:Int):Bool:=i7 i || i7 j || (GF 4000 i&&GF 4000 j)
def yR:=gI l9 fun i j=>.int (i*j)
def fP:=gI (fun _ j=>j != 0&&GF 8000 j) fun i j=>.int (i.fdiv j)
def bv:=gI (fun _ j=>j != 0) fun i j=>.int (i.fmod j)
def zT(i j:Int):Bool:=decide (0≤j)&&decide (j≤1000000)&&i7 i
def vf:=gI zT fun i j=>.int (i ^ j.toNat)
theorem ky{i:Int}(h:i7 i=true): -(2 ^ 64) < i∧i < 2 ^ 64:=by
  unfold i7 at h
  rw [Ol,decide_eq_true_iff,decide_eq_true_iff] at h
  exact h
theorem Cq{i j:Int}(h:zT i j=true):DN i j:=by
  unfold zT at h
  rw [Ol,Ol,decide_eq_true_iff,decide_eq_true_iff] at h
  have:=ky h.2
  exact⟨h.1.1,h.1.2,by lia⟩
def vZ(i j:Int):Prop:=Bf i j∨C4 i j
theorem B9:gD X (NZ .Mult) (rI vZ fun i j=>.int (i*j)):=by
  intro pins s σ H x y v u Q I rx ry h
  obtain⟨i,j,e1,e2,h1,q⟩:=h
  rcases h1 with h1 | h1
  · exact E6 pins s σ H x y v u Q I rx ry ⟨i,j,e1,e2,h1,q⟩
  · exact B_ pins s σ H x y v u Q I rx ry ⟨i,j,e1,e2,h1,q⟩
theorem BX{i j:Int}(h:l9 i j=true):vZ i j:=by
  unfold l9 at h
  rw [Bool.or_eq_true,Bool.or_eq_true,Ol] at h
  rcases h with (h | h) | h
  · exact .inl (.inl (ky h))
  · exact .inl (.inr (ky h))
  · exact .inr ⟨kP.mp h.1,kP.mp h.2⟩
theorem EM:gy K (rI vZ fun i j=>.int (i*j)) yR:=um (fun _ _ h=>BX h) fun _ _ _=>bS.mpr rfl
theorem HK:gy K (x8 fun i j=>.int (i - j)) lY:=kj fun _ _ _=>bS.mpr rfl
theorem D9:gy K (rI C3 fun i j=>.int (i.fdiv j)) fP:=um (fun i j h=>by
  rw [Ol] at h
  exact⟨by simpa using h.1,kP.mp h.2⟩) fun _ _ _=>bS.mpr rfl
theorem G_:gy K (rI (fun _ j=>j≠0) fun i j=>.int (i.fmod j)) bv:=um (fun i j h=>by simpa using h) fun _ _ _=>bS.mpr rfl
theorem Hk:gy K (rI DN fun i j=>.int (i ^ j.toNat)) vf:=um (fun _ _ h=>Cq h) fun _ _ _=>bS.mpr rfl
def oF:En→Rv→Rv→Option Rv:=fun e x y=>match dU e x,dU e y with
  | some (false,xs),some (false,ys)=>if xs.length+ys.length≤1000000 then some (.d (.tuple (xs++ys))) else none
  | _,_=>none
theorem DZ:gy K (Ad K) oF:=by
  intro σ H0 F H e x y z v u Q R A B hg q
  unfold oF at hg
  match h1:dU e x,h2:dU e y,hg with
  | some (false,xs),some (false,ys),hg=>
    obtain⟨p,vs,rfl,d1,s1⟩:=cN R A h1
    obtain⟨p',us,rfl,d2,s2⟩:=cN R B h2
    dsimp only at hg
    split at hg
    case isFalse=>cases hg
    case isTrue hl=>
    cases hg
    have l1:=d1.len
    have l2:=d2.len
    have sl:Ny=16777216:=Oh
    refine⟨p,p',vs,us,rfl,rfl,s1,s2,by lia,fun t H' sm hT=>?_⟩
    obtain⟨F',R',X',hF⟩:=R.growT sm hT
    exact q F' H' _ X' R' (df.mpr ⟨t,_,rfl,hF,(d1.append d2).mono X'.sf⟩)
def zi(e:En):Rv→Option (List Nf)
  | .l xs=>some xs
  | .s i=>match e[i]? with
    | some (some (.l xs))=>some xs
    | _=>none
  | _=>none
theorem r9{σ:L2.St}{H0 F H:Hp}{e:En}{r:Rv}{v:V}(R:aW K F H σ e)(h:ce K σ H0 F H e r v){xs:List Nf}(q:zi e r=some xs):∃p vs,v=.ref p∧F p=none∧H p=some (.lst vs)∧aQ K F xs vs:=by
  cases r with
  | d x=>cases q
  | l ys=>
    cases q
    obtain⟨l,vs,e1,h1,h2,h3,h4,_⟩:=h
    exact⟨l,vs,e1,h2,h3,h4⟩
  | s i=>
    obtain⟨h1,ys,h2⟩:=h
    simp only [zi,h2] at q
    cases q
    obtain⟨l,vs,e1,e2,e3,e4⟩:=R.own i _ h2
    rw [h1] at e1;cases e1
    exact⟨l,vs,rfl,e2,e3,e4⟩
def wx:En→Rv→Rv→Option Rv:=fun e x y=>(zi e x).bind fun xs=>(zi e y).bind fun ys=>if xs.length+ys.length≤1000000 then some (.l (xs++ys)) else none
theorem DY:gy K FD wx:=by
  intro σ H0 F H e x y z v u Q R A B hg q
  unfold wx at hg
  obtain⟨xs,h1,hg⟩:=M7 hg
  obtain⟨ys,h2,hg⟩:=M7 hg
  split at hg
  case isFalse=>cases hg
  case isTrue hl=>
  cases hg
  obtain⟨p,vs,rfl,f1,s1,d1⟩:=r9 R A h1
  obtain⟨p',us,rfl,f2,s2,d2⟩:=r9 R B h2
  have l1:=d1.len
  have l2:=d2.len
  have sl:Ny=16777216:=Oh
  refine⟨p,p',vs,us,rfl,rfl,s1,s2,by lia,fun t ht=>?_⟩
  obtain⟨R3,X3,hF,no⟩:=R.newL (vs:=vs++us) ht
  exact q _ _ _ X3 R3 ⟨t,_,rfl,ht,hF,ar,d1.append d2,no⟩
def cw:En→Rv→Rv→Option Rv:=A_ ww (A_ oF wx)
def DB(K:Ng):R2:=fun x y H Q=>x8 (fun i j=>.int (i+j)) x y H Q∨(Ad K x y H Q∨FD x y H Q)
theorem wD:gD X (NZ .Add) (DB X.K):=EW.or (B5.or EY)
theorem C8:gy K (DB K) cw:=gy.or (kj fun _ _ _=>bS.mpr rfl) (gy.or DZ DY)
def yT:En→Rv→Rv→Option Rv:=fun e x y=>match dU e x,cC y with
  | some (false,[d]),some k=>if 0≤k∧k≤100000 then some (.d (.tuple (Nv k.toNat d))) else none
  | _,_=>none
theorem aQ.rep{F:Hp}{d:Nf}{v:V}(h:DA K F d v):∀n,aQ K F (Nv n d) (Nv n v)
  | 0=>aQ.nil
  | n+1=>aQ.cons h (aQ.rep h n)
theorem FP:gy K (Ah K) yT:=by
  intro σ H0 F H e x y z v u Q R A B hg q
  unfold yT at hg
  match h1:dU e x,h2:cC y,hg with
  | some (false,[d]),some k,hg=>
    obtain⟨p,vs,rfl,d1,s1⟩:=cN R A h1
    dsimp only at hg
    split at hg
    case isFalse=>cases hg
    case isTrue hl=>
    cases hg
    have hd:=d1
    simp only [aQ] at hd
    obtain⟨w,r,e1,hw,e2⟩:=hd
    subst e2 e1
    refine⟨p,k,w,rfl,cT B h2,s1,hl.1,hl.2,fun t H' sm hT=>?_⟩
    obtain⟨F',R',X',hF⟩:=R.growT sm hT
    exact q F' H' _ X' R' (df.mpr ⟨t,_,rfl,hF,(aQ.rep hw _).mono X'.sf⟩)
def yS:En→Rv→Rv→Option Rv:=fun e x y=>(zi e x).bind fun xs=>(cC y).bind fun k=>if -100000≤k∧k≤100000∧xs.length*k.toNat≤1000000 then some (.l (Nv k.toNat xs).flatten) else none
theorem aQ.reps{F:Hp}{ds:List Nf}{vs:List V}(h:aQ K F ds vs):∀n,aQ K F (Nv n ds).flatten (Nv n vs).flatten
  | 0=>aQ.nil
  | n+1=>by simpa [Pq] using aQ.append h (aQ.reps h n)
theorem FN:gy K FK yS:=by
  intro σ H0 F H e x y z v u Q R A B hg q
  unfold yS at hg
  obtain⟨xs,h1,hg⟩:=M7 hg
  obtain⟨k,h2,hg⟩:=M7 hg
  split at hg
  case isFalse=>cases hg
  case isTrue hl=>
  cases hg
  obtain⟨p,vs,rfl,f1,s1,d1⟩:=r9 R A h1
  have l1:=d1.len
  have sl:Ny=16777216:=Oh
  refine⟨p,k,vs,rfl,cT B h2,s1,by lia,by lia,by rw [←l1];lia,fun t ht=>?_⟩
  obtain⟨R3,X3,hF,no⟩:=R.newL (vs:=(Nv k.toNat vs).flatten) ht
  exact q _ _ _ X3 R3 ⟨t,_,rfl,ht,hF,ar,aQ.reps d1 _,no⟩
def oI:En→Rv→Rv→Option Rv:=A_ yR (A_ yT yS)
def DE(K:Ng):R2:=fun x y H Q=>rI vZ (fun i j=>.int (i*j)) x y H Q∨(Ah K x y H Q∨FK x y H Q)
theorem B8:gD X (NZ .Mult) (DE X.K):=B9.or (Ca.or E9)
theorem G':gy K (DE K) oI:=gy.or EM (gy.or FP FN)
def Di:=gI (fun _ _=>true) fun i j=>.bool (decide (i < j))
def Kf:=gI (fun _ _=>true) fun i j=>.bool (decide (i≤j))
def Dg:=gI (fun _ _=>true) fun i j=>.bool (decide (j < i))
def Df:=gI (fun _ _=>true) fun i j=>.bool (decide (j≤i))
theorem Jn:gy K (x8 fun i j=>.bl (decide (i < j))) Di:=kj fun _ _ _=>cX.mpr rfl
theorem Jd:gy K (x8 fun i j=>.bl (decide (j < i))) Dg:=kj fun _ _ _=>cX.mpr rfl
theorem Jc:gy K (x8 fun i j=>.bl (decide (j≤i))) Df:=kj fun _ _ _=>cX.mpr rfl
def FH(K:Ng)(neg:Bool):R2:=fun x y H Q=>∃a b,DA K H a x∧DA K H b y∧NQ a=true∧NQ b=true∧Q (.bl (if neg then !PyData.eqv a b else OH a b)) H
theorem EZ{k:Nat}(hr:bK k X.A):gD X (Oc .Eq) (FH X.K false):=by
  intro pins s σ H x y v u Q I rx ry h
  obtain⟨a,b,ha,hb,s1,s2,q⟩:=h
  obtain⟨as,ra⟩:=DA.reads I (QJ s1) ha rx
  obtain⟨bs,rb⟩:=DA.reads I (QJ s2) hb ry
  exact SeqAt.compareEq_shaped ra rb s1 s2 hr.units ⟨.bl _,H,I,rfl,q⟩
theorem E7{k:Nat}(hr:bK k X.A):gD X (Oc .NotEq) (FH X.K true):=by
  intro pins s σ H x y v u Q I rx ry h
  obtain⟨a,b,ha,hb,s1,s2,q⟩:=h
  obtain⟨as,ra⟩:=DA.reads I (QJ s1) ha rx
  obtain⟨bs,rb⟩:=DA.reads I (QJ s2) hb ry
  exact SeqAt.compareNe_shaped ra rb s1 s2 hr.units ⟨.bl _,H,I,rfl,q⟩
def bh(neg:Bool):En→Rv→Rv→Option Rv:=fun e x y=>(gE e x).bind fun a=>(gE e y).bind fun b=>if (NQ a&&NQ b)=true then some (.d (.bool (if neg then !PyData.eqv a b else OH a b))) else none
theorem Dd{neg:Bool}:gy K (FH K neg) (bh neg):=by
  intro σ H0 F H e x y z v u Q R A B hg q
  unfold bh at hg
  obtain⟨a,h1,hg⟩:=M7 hg
  obtain⟨b,h2,hg⟩:=M7 hg
  split at hg
  case isFalse=>cases hg
  case isTrue hl=>
  cases hg
  rw [Ol] at hl
  exact⟨a,b,jq R A h1,jq R B h2,hl.1,hl.2,q F H _ (cW.refl _ _ _ _) R dN⟩
def FJ(K:Ng)(neg:Bool):R2:=fun x y H Q=>∃a xs,DA K H a x∧(DA K H (.list xs) y∨DA K H (.tuple xs) y)∧a.canLay0=true∧a.depth≤60∧OG xs=true∧Q (.bl (if neg then !(xs.any fun y=>OH y a) else xs.any fun y=>OH y a)) H
theorem E1{k:Nat}(hr:bK k X.A):gD X (Oc .In) (FJ X.K false):=by
  intro pins s σ H x y v u Q I rx ry h
  obtain⟨a,xs,ha,hb,s1,s2,s3,q⟩:=h
  obtain⟨as,ra⟩:=DA.reads I s1 ha rx
  have hu:=hr.units
  rcases hb with hb | hb
  · obtain⟨bs,rb⟩:=DA.reads I (by simpa [Oa] using s3) hb ry
    exact PySem.SeqAt.in_list_reads rb ra s3 s1 (by lia) ⟨.bl _,H,I,rfl,q⟩
  · obtain⟨bs,rb⟩:=DA.reads I (by simpa [Oa] using s3) hb ry
    exact PySem.SeqAt.in_tuple_reads rb ra s3 s1 (by lia) ⟨.bl _,H,I,rfl,q⟩
theorem xW{k:Nat}(hr:bK k X.A):gD X (Oc .NotIn) (FJ X.K true):=by
  intro pins s σ H x y v u Q I rx ry h
  obtain⟨a,xs,ha,hb,s1,s2,s3,q⟩:=h
  obtain⟨as,ra⟩:=DA.reads I s1 ha rx
  have hu:=hr.units
  rcases hb with hb | hb
  · obtain⟨bs,rb⟩:=DA.reads I (by simpa [Oa] using s3) hb ry
    exact PySem.SeqAt.notIn_list_reads rb ra s3 s1 (by lia) ⟨.bl _,H,I,rfl,q⟩
  · obtain⟨bs,rb⟩:=DA.reads I (by simpa [Oa] using s3) hb ry
    exact PySem.SeqAt.notIn_tuple_reads rb ra s3 s1 (by lia) ⟨.bl _,H,I,rfl,q⟩
def uU(neg:Bool):En→Rv→Rv→Option Rv:=fun e x y=>(gE e x).bind fun a=>(dU e y).bind fun p=>if (a.canLay0&&decide (a.depth≤60)&&OG p.2)=true then some (.d (.bool (if neg then !(p.2.any fun y=>OH y a) else p.2.any fun y=>OH y a))) else none
theorem GN{neg:Bool}:gy K (FJ K neg) (uU neg):=by
  intro σ H0 F H e x y z v u Q R A B hg q
  unfold uU at hg
  obtain⟨a,h1,hg⟩:=M7 hg
  obtain⟨⟨b,xs⟩,h2,hg⟩:=M7 hg
  split at hg
  case isFalse=>cases hg
  case isTrue hl=>
  cases hg
  rw [Ol,Ol,decide_eq_true_iff] at hl
  obtain⟨p,vs,rfl,d1,s1⟩:=cN R B h2
  refine⟨a,xs,jq R A h1,?_,hl.1.1,hl.1.2,hl.2,q F H _ (cW.refl _ _ _ _) R dN⟩
  cases b with
  | true=>exact .inl (eV.mpr ⟨p,vs,rfl,s1,d1.mono R.sm⟩)
  | false=>exact .inr (df.mpr ⟨p,vs,rfl,s1,d1.mono R.sm⟩)
def rR:Nf→Bool
  | .none=>true
  | _=>false
theorem qx{F:Hp}{d:Nf}{v:V}(h:DA K F d v):decide (v=.non)=rR d:=by
  cases d with
  | none=>rw [eu.mp h];rfl
  | bool b=>rw [cX.mp h];rfl
  | int b=>rw [bS.mp h];rfl
  | str b=>rw [iI.mp h];rfl
  | tuple b=>obtain⟨a,_,e,_⟩:=df.mp h;rw [e];rfl
  | list b=>obtain⟨a,_,e,_⟩:=eV.mp h;rw [e];rfl
  | dict b=>simp only [DA] at h;obtain⟨a,m,rfl,_⟩:=h;rfl
def xD(neg:Bool):En→Rv→Rv→Option Rv:=fun e x y=>(gE e x).bind fun a=>match y with
  | .d .none=>some (.d (.bool (if neg then !rR a else rR a)))
  | _=>none
def xC(neg:Bool):En→Rv→Rv→Option Rv:=fun e x y=>(de x).bind fun a=>(de y).bind fun b=>some (.d (.bool (if neg then !(a==b) else a==b)))
theorem GQ:gy K (fun x y H Q=>y=.non∧Q (.bl (decide (x=.non))) H) (xD false):=by
  intro σ H0 F H e x y z v u Q R A B hg q
  unfold xD at hg
  obtain⟨a,h1,hg⟩:=M7 hg
  split at hg
  · cases hg
    refine⟨eu.mp (show DA K F .none u from B),?_⟩
    rw [qx (jq R A h1)]
    exact q F H _ (cW.refl _ _ _ _) R dN
  · cases hg
theorem EQ:gy K (fun x y H Q=>y=.non∧Q (.bl (!decide (x=.non))) H) (xD true):=by
  intro σ H0 F H e x y z v u Q R A B hg q
  unfold xD at hg
  obtain⟨a,h1,hg⟩:=M7 hg
  split at hg
  · cases hg
    refine⟨eu.mp (show DA K F .none u from B),?_⟩
    rw [qx (jq R A h1)]
    exact q F H _ (cW.refl _ _ _ _) R dN
  · cases hg
theorem GP:gy K (fun x y H Q=>∃b c,x=.bl b∧y=.bl c∧Q (.bl (b==c)) H) (xC false):=by
  intro σ H0 F H e x y z v u Q R A B hg q
  unfold xC at hg
  obtain⟨a,h1,hg⟩:=M7 hg
  obtain⟨b,h2,hg⟩:=M7 hg
  cases hg
  exact⟨a,b,fw A h1,fw B h2,q F H _ (cW.refl _ _ _ _) R dN⟩
theorem y4:gy K (fun x y H Q=>∃b c,x=.bl b∧y=.bl c∧Q (.bl (!(b==c))) H) (xC true):=by
  intro σ H0 F H e x y z v u Q R A B hg q
  unfold xC at hg
  obtain⟨a,h1,hg⟩:=M7 hg
  obtain⟨b,h2,hg⟩:=M7 hg
  cases hg
  exact⟨a,b,fw A h1,fw B h2,q F H _ (cW.refl _ _ _ _) R dN⟩
def Gn:En→Rv→Rv→Option Rv:=A_ (xD false) (xC false)
def kb:En→Rv→Rv→Option Rv:=A_ (xD true) (xC true)
def Hv:R2:=fun x y H Q=>(y=.non∧Q (.bl (decide (x=.non))) H)∨∃b c,x=.bl b∧y=.bl c∧Q (.bl (b==c)) H
def wN:R2:=fun x y H Q=>(y=.non∧Q (.bl (!decide (x=.non))) H)∨∃b c,x=.bl b∧y=.bl c∧Q (.bl (!(b==c))) H
theorem E2:gD X (Oc .Is) Hv:=E5.or E3
theorem xU:gD X (Oc .IsNot) wN:=B'.or xV
theorem Jh:gy K Hv Gn:=gy.or GQ GP
theorem BC:gy K wN kb:=gy.or EQ y4
def du:En→Rv→Rv→Option Rv:=fun e x y=>(dU e x).bind fun p=>(cC y).bind fun i=>(atI p.2 i).map .d
def Hw(K:Ng):R2:=fun x y H Q=>Hx K x y H Q∨Hy K x y H Q
theorem GX:Bh X (Hw X.K):=BE.or Ee
theorem aQ.atI{F:Hp}{ds:List Nf}{vs:List V}(h:aQ K F ds vs){i:Int}{d:Nf}(q:atI ds i=some d):∃v,L2.atI vs i=some v∧DA K F d v:=by
  unfold L2.atI at q ⊢
  obtain⟨j,h1,h2⟩:=M7 q
  obtain⟨v,h3,h4⟩:=h.get h2
  exact⟨v,by rw [←h.len,h1];exact h3,h4⟩
theorem GY:gy K (Hw K) du:=by
  intro σ H0 F H e x y z v u Q R A B hg q
  unfold du at hg
  obtain⟨⟨b,xs⟩,h1,hg⟩:=M7 hg
  obtain⟨i,h2,hg⟩:=M7 hg
  obtain⟨d,h3,hg⟩:=M8 hg
  cases hg
  obtain⟨p,vs,rfl,d1,s1⟩:=cN R A h1
  obtain⟨w,h4,h5⟩:=d1.atI h3
  have fin:=q F H w (cW.refl _ _ _ _) R h5
  cases b with
  | true=>exact .inl ⟨p,vs,i,w,rfl,cT B h2,s1,h4,fin⟩
  | false=>exact .inr ⟨p,vs,i,w,rfl,cT B h2,s1,h4,fin⟩
end
end L2
namespace HT
open PySem PySem.Spec PyProof.Rows
section
variable{prog:Nl}{w:Nj}{A:Nn}{E:Kz→Nc→Prop}{s:Nc}
theorem getItem_tuple_all{t sl:xM}{items:Array Kz}{vl vu:Kz}{lo hi:Option Int}{Q:Kz→Nc→Prop}(ht:IsTup s.heap t items)(hs:s.heap.IsSliceOf sl vl vu .none)(pl:IsPart vl lo)(pu:IsPart vu hi)
    (hw:sIx items.size 0 lo=0∧sIx items.size items.size hi=items.size)
    (h:Q (.ref t) s):Np (Nr prog w) A (getItem (.ref t) (.ref sl)) Q E s:=by
  obtain⟨os,hos,hcs,hds⟩:=id hs
  have hTs:s.TypeIs (.ref sl) "slice":=⟨os,hos,hcs⟩
  unfold getItem
  try with_reducible refine wpAny_holding ?_
  first | refine Nu (Nz ?_) | skip
  refine Nu (wpAny_sequenceKey ht.typeIs (by decide) ?_)
  refine Nu (wpAny_callSpecial?_slot (name:=Ni "__getitem__") ht.typeIs PB
    (wpAny_call_entry PB ht.typeIs entry_tuple_getitem ?_ (args_tuple_getitem _ _)))
  show Np _ _ (Rt (.ref t) >>= _) _ _ s
  refine Nu (tupleItemsOf_ ht ?_)
  refine Nu (wpAny_typeOf hTs ?_)
  rw [if_pos (by decide)]
  refine Nu (ik hs pl pu ?_)
  have hno:(((sIx items.size 0 lo:Nat):Int)==0&&(1:Int)==1&&(sIx items.size items.size hi - sIx items.size 0 lo)==items.size)=true:=by
    rw [hw.1,hw.2];simp
  show Np _ _ (if (((sIx items.size 0 lo:Nat):Int)==0&&(1:Int)==1&&(sIx items.size items.size hi - sIx items.size 0 lo)==items.size)=true then _ else _) _ _ s
  rw [if_pos hno]
  unfold Builtin.Tuple.tupleIsExact
  refine Nu (Nu (wpAny_typeOf ht.typeIs (Nz ?_)))
  rw [if_pos (by decide)]
  exact Nu (wpAny_rule (Nz ⟨_,rfl,Nz h⟩))
end
end HT
namespace L2
open PySem PySem.Spec PyProof.Rows
section
variable{X:Cx}{K:Ng}{a:Nh}{fa:FE}{lo hi:Option Nh}{pos p2:Pos}
def j9(xs:List Nf)(lo hi:Option Int):List Nf:=(xs.drop (HT.sIx xs.length 0 lo)).take (HT.sIx xs.length xs.length hi - HT.sIx xs.length 0 lo)
def HD(K:Ng):V→Option Int→Option Int→Hp→VK→Prop:=fun x lo hi H Q=>∃a xs,x=.ref a∧dW K H a xs∧
  (HT.sIx xs.length 0 lo=0∧HT.sIx xs.length xs.length hi=xs.length)∧Q (.ref a) H
theorem CL:A4 X (HD X.K):=by
  intro pins s σ H x v vl vu lo hi sl Q I rx hs pl pu h
  obtain⟨a,xs,rfl,hx,hw,q⟩:=h
  cases rx
  obtain⟨its,r,ht,hz⟩:=I.tuple hx
  have hlen:its.toArray.size=xs.length:=by rw [NI];exact r.length.symm
  refine⟨"tuple",_,PB.lookup,ht.typeIs,?_⟩
  exact HT.getItem_tuple_all ht hs pl pu (by rw [hlen];exact hw) ⟨.ref a,H,I,rfl,q⟩
def Jp(K:Ng):V→Option Int→Option Int→Hp→VK→Prop:=fun x lo hi H Q=>HB K x lo hi H Q∨(HD K x lo hi H Q∨HA K x lo hi H Q)
theorem HI:A4 X (Jp X.K):=FU.or (CL.or CK)
abbrev FO:=En→Option (Option Int × En)
def fO(K:Ng)(f:FO):TO:=fun σ H Q=>∃F e o e',aW K F H σ e∧f e=some (o,e')∧∀F' H',cW σ F H e F' H' e'→aW K F' H' σ e'→Q o H'
theorem PO.mono{e:Option Nh}{t t':TO}(h:PO X e t)(m:∀σ H Q,t' σ H Q→t σ H Q):PO X e t':=fun pins s σ H Q I q=>h pins s σ H Q I (m σ H Q q)
def gG:FO:=fun e=>some (none,e)
def gf(f:FE):FO:=fun e=>(f e).bind fun p=>(cC p.1).map fun i=>(some i,p.2)
theorem iX:PO X none (fO K gG):=Cn.mono fun σ H Q h=>by
  obtain⟨F,e,o,e',R,hf,q⟩:=h
  cases hf
  exact q F H (cW.refl _ _ _ _) R
theorem iY(h:PE X a (fE K fa)):PO X (some a) (fO K (gf fa)):=(Co h).mono fun σ H Q h=>by
  obtain⟨F,e,o,e',R,hf,q⟩:=h
  unfold gf at hf
  obtain⟨⟨x,e1⟩,h1,hf⟩:=M7 hf
  obtain⟨i,h2,hf⟩:=M8 hf
  cases hf
  exact⟨F,e,x,_,R,h1,fun F1 H1 v X1 R1 A1=>⟨i,cT A1 h2,q F1 H1 X1 R1⟩⟩
def GJ(e:En)(x:Rv)(lo hi:Option Int):Option Rv:=(dU e x).map fun p=>if p.1=true then .l (j9 p.2 lo hi) else .d (.tuple (j9 p.2 lo hi))
def xh(fa:FE)(fl fh:FO):FE:=fun e=>(fa e).bind fun p=>(fl p.2).bind fun l=>(fh l.2).bind fun h=>(GJ h.2 p.1 l.1 h.1).map fun z=>(z,h.2)
theorem rG{F:Hp}{ds:List Nf}{vs:List V}(h:aQ K F ds vs)(lo hi:Option Int):aQ K F (j9 ds lo hi) (m4 vs lo hi):=by
  unfold j9 m4
  rw [h.len]
  exact(h.drop _).take _
theorem wo{α:Type}{xs:List α}{lo hi:Option Int}(h:HT.sIx xs.length 0 lo=0∧HT.sIx xs.length xs.length hi=xs.length):(xs.drop (HT.sIx xs.length 0 lo)).take (HT.sIx xs.length xs.length hi - HT.sIx xs.length 0 lo)=xs:=by
  rw [h.1,h.2];simp
theorem Aa{fl fh:FO}(he:PE X a (fE X.K fa))(hl:PO X lo (fO X.K fl))(hh:PO X hi (fO X.K fh)):PE X (.Subscript a (.Slice lo hi none p2) pos) (fE X.K (xh fa fl fh)):=(o5 HI he hl hh).mono fun σ H Q h=>by
  obtain⟨F,e,z,e',R,hf,q⟩:=h
  unfold xh at hf
  obtain⟨⟨x,e1⟩,h1,hf⟩:=M7 hf
  obtain⟨⟨l,e2⟩,h2,hf⟩:=M7 hf
  obtain⟨⟨u,e3⟩,h3,hf⟩:=M7 hf
  obtain⟨z',h4,hf⟩:=M8 hf
  cases hf
  refine⟨F,e,x,e1,R,h1,fun F1 H1 v X1 R1 A1=>⟨F1,e1,l,e2,R1,h2,fun F2 H2 X2 R2=>⟨F2,e2,u,_,R2,h3,fun F3 H3 X3 R3=>?_⟩⟩⟩
  have X12:=X1.trans X2
  have X13:=X12.trans X3
  have A3:=(A1.ext X2).ext X3
  unfold GJ at h4
  obtain⟨⟨b,xs⟩,h5,h4⟩:=M8 h4
  obtain⟨p,vs,rfl,d1,s1⟩:=cN R3 A3 h5
  cases b with
  | true=>
    rw [if_pos rfl] at h4;cases h4
    refine .inr (.inr ⟨p,vs,rfl,s1,fun t ht=>?_⟩)
    obtain⟨R4,X4,hF,no⟩:=R3.newL (vs:=m4 vs l u) ht
    exact q _ _ _ (X13.trans X4) R4 ⟨t,_,rfl,X13.dom _ ht,hF,ar,rG d1 l u,no⟩
  | false=>
    rw [if_neg (by simp)] at h4;cases h4
    by_cases hw:HT.sIx vs.length 0 l=0∧HT.sIx vs.length vs.length u=vs.length
    · refine .inr (.inl ⟨p,vs,rfl,s1,hw,?_⟩)
      have e5:j9 xs l u=xs:=by unfold j9;exact wo (by rw [d1.len];exact hw)
      rw [e5] at q
      obtain⟨F4,R4,X4,hF⟩:=R3.growT (ao.refl _) s1
      exact q _ _ _ (X13.trans X4) R4 (df.mpr ⟨p,vs,rfl,hF,d1.mono X4.sf⟩)
    · refine .inl ⟨p,vs,rfl,s1,hw,fun t ht=>?_⟩
      obtain⟨R4,X4⟩:=R3.newT (vs:=m4 vs l u) ht
      exact q _ _ _ (X13.trans X4) R4 (df.mpr ⟨t,_,rfl,.inl (.inl ar),(rG d1 l u).mono X4.sf⟩)
end
section
variable{X:Cx}{K:Ng}
theorem sN{σ:L2.St}{H0 F H:Hp}{e:En}{x:Rv}{vs:List V}(h:dB K σ H0 F H e [x] vs):∃v,vs=[v]∧ce K σ H0 F H e x v:=by
  obtain⟨v,ws,rfl,h1,h2⟩:=h
  have h2':ws=[]:=h2
  subst h2'
  exact⟨v,rfl,h1⟩
theorem wQ{σ:L2.St}{H0 F H:Hp}{e:En}{x y:Rv}{vs:List V}(h:dB K σ H0 F H e [x,y] vs):∃v u,vs=[v,u]∧ce K σ H0 F H e x v∧ce K σ H0 F H e y u:=by
  obtain⟨v,ws,rfl,h1,h2⟩:=h
  obtain⟨u,rfl,h3⟩:=sN h2
  exact⟨v,u,rfl,h1,h3⟩
def g1(g:En→Rv→Option Rv):En→List Rv→Option Rv:=fun e xs=>match xs with
  | [x]=>g e x
  | _=>none
def g2(g:En→Rv→Rv→Option Rv):En→List Rv→Option Rv:=fun e xs=>match xs with
  | [x,y]=>g e x y
  | _=>none
theorem et{r:List V→Hp→VK→Prop}{g:En→Rv→Option Rv}(h:Gm K (fun v H Q=>r [v] H Q) g):cO K r (g1 g):=by
  intro σ H0 F H e xs z vs Q R A hg q
  unfold g1 at hg
  match xs,hg with
  | [x],hg=>
    obtain⟨v,rfl,h1⟩:=sN A
    exact h σ H0 F H e x z v Q R h1 hg q
theorem wk{r:List V→Hp→VK→Prop}{g:En→Rv→Rv→Option Rv}(h:gy K (fun v u H Q=>r [v,u] H Q) g):cO K r (g2 g):=by
  intro σ H0 F H e xs z vs Q R A hg q
  unfold g2 at hg
  match xs,hg with
  | [x,y],hg=>
    obtain⟨v,u,rfl,h1,h2⟩:=wQ A
    exact h σ H0 F H e x y z v u Q R h1 h2 hg q
def gB:En→Rv→Option Rv:=fun e x=>(dU e x).map fun p=>.d (.int p.2.length)
theorem G1:cO K (fun xs H Q=>∃p ys,xs=[.ref p]∧(iu K H p ys∨dW K H p ys)∧Q (.int ys.length) H) (g1 gB):=et fun σ H0 F H e x z v Q R A hg q=>by
  obtain⟨⟨b,xs⟩,h5,h4⟩:=M8 hg
  obtain⟨p,vs,rfl,d1,s1⟩:=cN R A h5
  cases h4
  refine⟨p,vs,rfl,?_,?_⟩
  · cases b with
    | true=>exact .inl s1
    | false=>exact .inr s1
  · rw [←d1.len]
    exact q F H _ (cW.refl _ _ _ _) R pv
def xB:En→Rv→Option Rv:=fun _ x=>(cC x).map fun i=>.d (.int (if i < 0 then -i else i))
theorem Gy:cO K (fun xs H Q=>∃i,xs=[.int i]∧Q (.int (if i < 0 then -i else i)) H) (g1 xB):=et fun σ H0 F H e x z v Q R A hg q=>by
  obtain⟨i,h5,h4⟩:=M8 hg
  cases h4
  exact⟨i,by rw [cT A h5],q F H _ (cW.refl _ _ _ _) R pv⟩
def ve:En→Rv→Option Rv:=fun _ x=>match x with
  | .d (.int i)=>some (.d (.int i))
  | .d (.bool k)=>some (.d (.int (if k then 1 else 0)))
  | _=>none
theorem GO:cO K (fun xs H Q=>(∃i,xs=[.int i]∧Q (.int i) H)∨∃k,xs=[.bl k]∧Q (.int (if k then 1 else 0)) H) (g1 ve):=et fun σ H0 F H e x z v Q R A hg q=>by
  unfold ve at hg
  split at hg
  · cases hg
    exact .inl ⟨_,by rw [bS.mp (show DA K F (.int _) v from A)],q F H _ (cW.refl _ _ _ _) R pv⟩
  · cases hg
    exact .inr ⟨_,by rw [cX.mp (show DA K F (.bool _) v from A)],q F H _ (cW.refl _ _ _ _) R pv⟩
  · cases hg
def yQ:=gI (fun _ _=>true) fun i j=>.int (if j < i then j else i)
def xF:=gI (fun _ _=>true) fun i j=>.int (if j > i then j else i)
theorem G9:cO K (fun xs H Q=>∃i j,xs=[.int i,.int j]∧Q (.int (if j < i then j else i)) H) (g2 yQ):=wk fun σ H0 F H e x y z v u Q R A B hg q=>by
  obtain⟨i,j,h1,h2,h3⟩:=kj (K:=K) (g:=fun i j=>.int (if j < i then j else i)) (fun _ _ _=>bS.mpr rfl) σ H0 F H e x y z v u Q R A B hg q
  exact⟨i,j,by rw [h1,h2],h3⟩
theorem G8:cO K (fun xs H Q=>∃i j,xs=[.int i,.int j]∧Q (.int (if j > i then j else i)) H) (g2 xF):=wk fun σ H0 F H e x y z v u Q R A B hg q=>by
  obtain⟨i,j,h1,h2,h3⟩:=kj (K:=K) (g:=fun i j=>.int (if j > i then j else i)) (fun _ _ _=>bS.mpr rfl) σ H0 F H e x y z v u Q R A B hg q
  exact⟨i,j,by rw [h1,h2],h3⟩
def dF:En→Rv→Option Rv:=fun e x=>(dU e x).map fun p=>.d (.tuple p.2)
theorem CU:cO K (fun xs H Q=>∃p ys,xs=[.ref p]∧((iu K H p ys∧∀l,H l=none→Q (.ref l) (bw H l (.tup ys)))∨(dW K H p ys∧Q (.ref p) H))) (g1 dF):=et fun σ H0 F H e x z v Q R A hg q=>by
  obtain⟨⟨b,xs⟩,h5,h4⟩:=M8 hg
  obtain⟨p,vs,rfl,d1,s1⟩:=cN R A h5
  cases h4
  refine⟨p,vs,rfl,?_⟩
  cases b with
  | true=>
    refine .inl ⟨s1,fun t ht=>?_⟩
    obtain⟨R4,X4⟩:=R.newT (vs:=vs) ht
    exact q _ _ _ X4 R4 (df.mpr ⟨t,_,rfl,.inl (.inl ar),d1.mono X4.sf⟩)
  | false=>
    obtain⟨F4,R4,X4,hF⟩:=R.growT (ao.refl _) s1
    exact .inr ⟨s1,q _ _ _ X4 R4 (df.mpr ⟨p,vs,rfl,hF,d1.mono X4.sf⟩)⟩
def Dh:En→Rv→Option Rv:=fun e x=>(dU e x).map fun p=>.l p.2
theorem EG:cO K (fun xs H Q=>∃p ys,xs=[.ref p]∧(iu K H p ys∨dW K H p ys)∧∀l,H l=none→Q (.ref l) (bw H l (.lst ys))) (g1 Dh):=et fun σ H0 F H e x z v Q R A hg q=>by
  obtain⟨⟨b,xs⟩,h5,h4⟩:=M8 hg
  obtain⟨p,vs,rfl,d1,s1⟩:=cN R A h5
  cases h4
  refine⟨p,vs,rfl,?_,fun t ht=>?_⟩
  · cases b with
    | true=>exact .inl s1
    | false=>exact .inr s1
  · obtain⟨R4,X4,hF,no⟩:=R.newL (vs:=vs) ht
    exact q _ _ _ X4 R4 ⟨t,_,rfl,ht,hF,ar,d1,no⟩
def qD:List Nf→Option (List Int)
  | []=>some []
  | .int i::r=>(qD r).map (i::·)
  | _=>none
theorem oP:∀{ds:List Nf} {ns:List Int},qD ds=some ns→ds=ns.map .int
  | [],_,h=>by cases h;rfl
  | .int i::r,_,h=>by
    obtain⟨ns,h1,rfl⟩:=M8 h
    rw [oP h1];rfl
theorem l5:∀(ns:List Int),qD (ns.map .int)=some ns
  | []=>rfl
  | i::r=>by simp [qD,l5 r]
def rm:List Nf→Option (List Bool)
  | []=>some []
  | .bool i::r=>(rm r).map (i::·)
  | _=>none
theorem qt:∀{ds:List Nf} {ns:List Bool},rm ds=some ns→ds=ns.map .bool
  | [],_,h=>by cases h;rfl
  | .bool i::r,_,h=>by
    obtain⟨ns,h1,rfl⟩:=M8 h
    rw [qt h1];rfl
def hE(g:List Nf→Option Nf):En→Rv→Option Rv:=fun e x=>match dU e x with
  | some (true,xs)=>(g xs).map .d
  | _=>none
theorem AD{r:List V→Hp→VK→Prop}{g:List Nf→Option Nf}(h:∀(F H:Hp) (p:xM) (xs:List Nf) (vs:List V) (d:Nf) (Q:VK),aQ K F xs vs→iu K H p vs→g xs=some d→(∀v,(∀F,DA K F d v)→Q v H)→r [.ref p] H Q):cO K r (g1 (hE g)):=et fun σ H0 F H e x z v Q R A hg q=>by
  unfold hE at hg
  split at hg
  case h_2=>cases hg
  case h_1 xs h5=>
  obtain⟨p,vs,rfl,d1,s1⟩:=cN R A h5
  obtain⟨d,h6,hg⟩:=M8 hg
  cases hg
  exact h F H p xs vs d Q d1 s1 h6 fun v hv=>q F H v (cW.refl _ _ _ _) R (hv F)
def qB:List Nf→Option Nf:=fun xs=>(qD xs).map fun ns=>.int ns.sum
theorem HM:cO K (fun xs H Q=>∃(l:xM) (ns:List Int),xs=[.ref l]∧iu K H l (ns.map V.int)∧Q (.int ns.sum) H) (g1 (hE qB)):=AD fun F H p xs vs d Q d1 s1 hg q=>by
  obtain⟨ns,h1,h2⟩:=M8 hg
  cases h2
  rw [oP h1] at d1
  rw [aQ.ints.mp d1] at s1
  exact⟨p,ns,rfl,s1,q _ fun _=>bS.mpr rfl⟩
def tQ:List Nf→Option Nf:=fun xs=>(rm xs).map fun ns=>.bool (ns.all id)
theorem Gz:cO K (fun xs H Q=>∃(l:xM) (bs:List Bool),xs=[.ref l]∧iu K H l (bs.map V.bl)∧Q (.bl (bs.all id)) H) (g1 (hE tQ)):=AD fun F H p xs vs d Q d1 s1 hg q=>by
  obtain⟨ns,h1,h2⟩:=M8 hg
  cases h2
  rw [qt h1] at d1
  rw [aQ.bools.mp d1] at s1
  exact⟨p,ns,rfl,s1,q _ fun _=>cX.mpr rfl⟩
def ed:En→Rv→Option Rv:=fun e x=>match dU e x with
  | some (false,xs)=>(qD xs).bind fun ns=>if ns.length < 64 then some (.l ((io ns).map .int)) else none
  | _=>none
def Ai(K:Ng):List V→Hp→VK→Prop:=fun xs H Q=>∃(a:xM) (ns:List Int),xs=[.ref a]∧dW K H a (ns.map V.int)∧ns.length < 64∧∀(l:xM) (H':Hp),ao H H'→H l=none→H' l=some (.lst ((io ns).map V.int))→Q (.ref l) H'
theorem va:cQ X (.builtin "sorted") (Ai X.K):=by
  intro pins s σ H xs us Q I rv h
  obtain⟨a,ns,e1,e2,e3,q⟩:=h
  exact tF pins s σ H xs us Q I rv ⟨a,ns,e1,e2,e3,fun l ns' H' sm hn hl hp hs=>q l H' sm hn (by rw [←AG hp hs];exact hl)⟩
theorem CM:cO K (Ai K) (g1 ed):=et fun σ H0 F H e x z v Q R A hg q=>by
  unfold ed at hg
  split at hg
  case h_2=>cases hg
  case h_1 xs h5=>
  obtain⟨p,vs,rfl,d1,s1⟩:=cN R A h5
  obtain⟨ns,h6,hg⟩:=M7 hg
  split at hg
  case isFalse=>cases hg
  case isTrue hl=>
  cases hg
  rw [oP h6] at d1
  have s1':dW K H p vs:=s1
  rw [aQ.ints.mp d1] at s1'
  refine⟨p,ns,rfl,s1',hl,fun l H' sm hn hl'=>?_⟩
  obtain⟨R4,X4⟩:=R.same sm
  exact q F H' _ X4 R4 ⟨l,_,rfl,hn,R.freeF hn,hl',aQ.ints.mpr rfl,fun z=>R.ownH l ((R.sameOwn sm l).mp z) hn⟩
mutual
def De:Nf→Bool
  | .tuple ds=>wu ds
  | .list _=>false
  | .dict _=>false
  | _=>true
def wu:List Nf→Bool
  | []=>true
  | d::r=>De d&&wu r
end
mutual
def zy:Nf→Bool
  | .list _=>false
  | .tuple ds=>ue ds
  | _=>true
def ue:List Nf→Bool
  | []=>true
  | d::r=>zy d&&ue r
end
end
section
variable{K:Ng}{σ:L2.St}{H0 F H F' H':Hp}{e e':En}
theorem aW.upd1(R:aW K F H σ e){σ':L2.St}(i:Nat)(hl:σ'.length=e'.length)(hσ:∀j,j≠i→σ'[j]?=σ[j]?)(he:∀j,j≠i→e'[j]?=e[j]?)(sF:ao F F')(sm:ao F' H')(hf:∀j a,j≠i→Fp σ e H j a→F' a=none)
    (hh:∀j a o,j≠i→Fp σ e H j a→H a=some o→H' a=some o)(hd:∀x,e'[i]?=some (some (.d x))→∃v,σ'[i]?=some (some v)∧DA K F' x v)
    (ho:∀xs,e'[i]?=some (some (.l xs))→∃l vs,σ'[i]?=some (some (.ref l))∧F' l=none∧H' l=some (.lst vs)∧aQ K F' xs vs)
    (hn:∀xss,e'[i]?=some (some (.n xss))→∃(l:xM) (bs:List xM),σ'[i]?=some (some (.ref l))∧F' l=none∧H' l=some (.lst (bs.map V.ref))∧bs.length=xss.length∧bs.Nodup∧l∉bs∧
      ∀(k:Nat) (b:xM) (ys:List Nf),bs[k]?=some b→xss[k]?=some ys→F' b=none∧∃us,H' b=some (.lst us)∧aQ K F' ys us)
    (hi:∀a j,j≠i→Fp σ' e' H' i a→¬Fp σ e H j a):aW K F' H' σ' e'∧∀j a,j≠i→(Fp σ' e' H' j a↔ Fp σ e H j a):=by
  have fs:∀j a,j≠i→(Fp σ' e' H' j a↔ Fp σ e H j a):=by
    intro j a hj
    have key:∀xss l,e[j]?=some (some (.n xss))→σ[j]?=some (some (.ref l))→H' l=H l:=fun xss l h1 h2=>by
      obtain⟨l',bs,g1,g2,g3,_⟩:=R.nst j xss h1
      rw [h2] at g1;cases g1
      rw [g3]
      exact hh j l _ hj (.inr ⟨xss,l,bs,h1,h2,g3,.inl rfl⟩) g3
    unfold Fp
    rw [he j hj,hσ j hj]
    constructor
    · rintro(h1 | ⟨xss,l,bs,h1,h2,h3,h4⟩)
      · exact .inl h1
      · exact .inr ⟨xss,l,bs,h1,h2,by rw [←key xss l h1 h2];exact h3,h4⟩
    · rintro(h1 | ⟨xss,l,bs,h1,h2,h3,h4⟩)
      · exact .inl h1
      · exact .inr ⟨xss,l,bs,h1,h2,by rw [key xss l h1 h2];exact h3,h4⟩
  refine⟨⟨sm,hl,fun j x q=>?_,fun j xs q=>?_,fun j xss q=>?_,fun j k a q1 q2=>?_⟩,fs⟩
  · by_cases z:j=i
    · subst z;exact hd x q
    · rw [he j z] at q
      obtain⟨v,h1,h2⟩:=R.dat j x q
      exact⟨v,by rw [hσ j z];exact h1,DA.mono sF h2⟩
  · by_cases z:j=i
    · subst z;exact ho xs q
    · rw [he j z] at q
      obtain⟨l,vs,h1,h2,h3,h4⟩:=R.own j xs q
      have o:Fp σ e H j l:=.inl ⟨xs,q,h1⟩
      exact⟨l,vs,by rw [hσ j z];exact h1,hf j l z o,hh j l _ z o h3,h4.mono sF⟩
  · by_cases z:j=i
    · subst z;exact hn xss q
    · rw [he j z] at q
      obtain⟨l,bs,h1,h2,h3,h4,h5,h6,h7⟩:=R.nst j xss q
      have o:Fp σ e H j l:=.inr ⟨xss,l,bs,q,h1,h3,.inl rfl⟩
      refine⟨l,bs,by rw [hσ j z];exact h1,hf j l z o,hh j l _ z o h3,h4,h5,h6,fun k b ys g1 g2=>?_⟩
      obtain⟨c1,us,c2,c3⟩:=h7 k b ys g1 g2
      have ob:Fp σ e H j b:=.inr ⟨xss,l,bs,q,h1,h3,.inr (Nb g1)⟩
      exact⟨hf j b z ob,us,hh j b _ z ob c2,c3.mono sF⟩
  · by_cases zj:j=i
    · subst zj
      by_cases zk:k=j
      · exact zk.symm
      · exact absurd ((fs k a zk).mp q2) (hi a k zk q1)
    · by_cases zk:k=i
      · subst zk
        exact absurd ((fs j a zj).mp q1) (hi a j zj q2)
      · exact R.fp j k a ((fs j a zj).mp q1) ((fs k a zk).mp q2)
theorem aW.putL(R:aW K F H σ e){i:Nat}{xs ys:List Nf}{l:xM}{vs:List V}(hi:e[i]?=some (some (.l xs)))(hl:σ[i]?=some (some (.ref l)))(hd:aQ K F ys vs):
    aW K F (bw H l (.lst vs)) σ (e.set i (some (.l ys)))∧cW σ F H e F (bw H l (.lst vs)) (e.set i (some (.l ys))):=by
  obtain⟨l',vs',h1,h2,h3,h4⟩:=R.own i xs hi
  rw [hl] at h1;cases h1
  have hlt:i < e.length:=(M9 hi).1
  have fi:Fp σ e H i l:=.inl ⟨xs,hi,hl⟩
  have gi:(e.set i (some (Sv.l ys)))[i]?=some (some (.l ys)):=Os hlt
  obtain⟨R',fs⟩:=R.upd1 (F':=F) (H':=bw H l (.lst vs)) (e':=e.set i (some (.l ys))) i (by rw [PL];exact R.len) (fun _ _=>rfl) (fun j hj=>NC (NJ hj)) (ao.refl F)
    (fun b o q=>by
      have z:b≠l:=fun z=>by rw [z,h2] at q;cases q
      rw [av z];exact R.sm b o q)
    (fun j a _ q=>(R.fpAt q).1)
    (fun j a o hj q ha=>by
      have z:a≠l:=fun z=>hj (R.fp j i a q (by rw [z];exact fi))
      rw [av z];exact ha)
    (fun x q=>by rw [gi] at q;cases q) (fun zs q=>by rw [gi] at q;cases q;exact⟨l,vs,hl,h2,ar,hd⟩) (fun xss q=>by rw [gi] at q;cases q)
    (fun a j hj q q2=>by
      rcases q with ⟨zs,_,q⟩ | ⟨xss,_,_,q,_⟩
      · rw [hl] at q;cases q
        exact hj (R.fp j i _ q2 fi)
      · rw [gi] at q;cases q)
  refine⟨R',⟨ao.refl _,fun a q=>?_,fun _ _ q _ _=>q,fun a ws q=>?_,fun a o q n=>?_,fun j=>?_,fun a ⟨j,q⟩=>?_,fun _ _ q _ _=>q⟩⟩
  · by_cases z:a=l
    · rw [z,ar] at q;cases q
    · rw [av z] at q;exact q
  · by_cases z:a=l
    · rw [z];exact⟨vs,ar⟩
    · rw [av z];exact⟨ws,q⟩
  · have z:a≠l:=fun z=>n ⟨i,by rw [z];exact fi⟩
    rw [av z];exact q
  · by_cases z:j=i
    · subst z;rw [gi];exact⟨fun _=>⟨xs,hi⟩,fun _=>⟨ys,rfl⟩⟩
    · rw [NC (NJ z)]
  · by_cases z:j=i
    · subst z
      rcases q with ⟨zs,_,q⟩ | ⟨xss,_,_,q,_⟩
      · rw [hl] at q;cases q;exact .inl ⟨j,fi⟩
      · rw [gi] at q;cases q
    · exact .inl ⟨j,(fs j a z).mp q⟩
theorem aW.setD(R:aW K F H σ e)(i:Nat){x:Nf}{v:V}(h:DA K F x v):aW K F H (σ.set i (some v)) (e.set i (some (.d x)))∧∀a,bz (σ.set i (some v)) (e.set i (some (.d x))) H a→bz σ e H a:=by
  have gi:∀s,(e.set i (some (Sv.d x)))[i]?=some (some s)→s=.d x∧i < e.length:=fun s q=>by
    have hlt:i < e.length:=by have:=(M9 q).1;simpa using this
    rw [Os hlt] at q
    exact⟨(Ox (Ox q)).symm,hlt⟩
  have nofp:∀a,¬Fp (σ.set i (some v)) (e.set i (some (.d x))) H i a:=fun a q=>by
    rcases q with ⟨zs,q,_⟩ | ⟨xss,_,_,q,_⟩
    · cases (gi _ q).1
    · cases (gi _ q).1
  obtain⟨R',fs⟩:=R.upd1 (F':=F) (H':=H) (σ':=σ.set i (some v)) (e':=e.set i (some (.d x))) i (by rw [PL,PL];exact R.len) (fun j hj=>NC (NJ hj)) (fun j hj=>NC (NJ hj)) (ao.refl F) R.sm
    (fun j a _ q=>(R.fpAt q).1) (fun j a o _ _ ha=>ha)
    (fun y q=>by
      obtain⟨z,hlt⟩:=gi _ q
      cases z
      exact⟨v,Os (by rw [R.len];exact hlt),h⟩)
    (fun zs q=>by cases (gi _ q).1) (fun xss q=>by cases (gi _ q).1) (fun a j hj q=>absurd q (nofp a))
  refine⟨R',fun a ⟨j,q⟩=>?_⟩
  by_cases z:j=i
  · subst z;exact absurd q (nofp a)
  · exact⟨j,(fs j a z).mp q⟩
theorem aW.setL(R:aW K F H σ e)(i:Nat){xs:List Nf}{l:xM}{vs:List V}(h1:F l=none)(h2:H l=some (.lst vs))(h3:aQ K F xs vs)(h4:¬bz σ e H l):aW K F H (σ.set i (some (.ref l))) (e.set i (some (.l xs)))∧∀a,bz (σ.set i (some (.ref l))) (e.set i (some (.l xs))) H a→bz σ e H a∨a=l:=by
  have gi:∀s,(e.set i (some (Sv.l xs)))[i]?=some (some s)→s=.l xs∧i < e.length:=fun s q=>by
    have hlt:i < e.length:=by have:=(M9 q).1;simpa using this
    rw [Os hlt] at q
    exact⟨(Ox (Ox q)).symm,hlt⟩
  have onefp:∀a,Fp (σ.set i (some (.ref l))) (e.set i (some (.l xs))) H i a→a=l:=fun a q=>by
    rcases q with ⟨zs,q,q2⟩ | ⟨xss,_,_,q,_⟩
    · obtain⟨_,hlt⟩:=gi _ q
      rw [Os (by rw [R.len];exact hlt)] at q2
      cases q2;rfl
    · cases (gi _ q).1
  obtain⟨R',fs⟩:=R.upd1 (F':=F) (H':=H) (σ':=σ.set i (some (.ref l))) (e':=e.set i (some (.l xs))) i (by rw [PL,PL];exact R.len) (fun j hj=>NC (NJ hj)) (fun j hj=>NC (NJ hj)) (ao.refl F) R.sm
    (fun j a _ q=>(R.fpAt q).1) (fun j a o _ _ ha=>ha) (fun y q=>by cases (gi _ q).1)
    (fun zs q=>by
      obtain⟨z,hlt⟩:=gi _ q
      cases z
      exact⟨l,vs,Os (by rw [R.len];exact hlt),h1,h2,h3⟩)
    (fun xss q=>by cases (gi _ q).1) (fun a j hj q q2=>h4 ⟨j,by rw [onefp a q] at q2;exact q2⟩)
  refine⟨R',fun a ⟨j,q⟩=>?_⟩
  by_cases z:j=i
  · subst z;exact .inr (onefp a q)
  · exact .inl ⟨j,(fs j a z).mp q⟩
end
section
variable{X:Cx}{K:Ng}{o a:Nh}{es:List Nh}{fo:FE}{fs:FA}{name:Str}{apos cpos:Pos}{id:String}
def nR(K:Ng)(r:V→List V→Hp→VK→Prop)(g:List Nf→List Nf→Option (Nf × List Nf)):Prop:=
  ∀(F H:Hp) (l:xM) (xs ys ds:List Nf) (z:Nf) (vs us:List V) (Q:VK),F l=none→ao F H→H l=some (.lst vs)→aQ K F xs vs→aQ K F ds us→g xs ds=some (z,ys)→
    (∀w ws,DA K F z w→aQ K F ys ws→Q w (bw H l (.lst ws)))→r (.ref l) us H Q
def cg(g:List Nf→List Nf→Option (Nf × List Nf))(fo:FE)(fs:FA):FE:=fun e=>(fo e).bind fun p=>match p.1 with
  | .s i=>(fs p.2).bind fun q=>(gF q.1).bind fun ds=>match q.2[i]? with
    | some (some (.l xs))=>(g xs ds).map fun z=>(.d z.1,q.2.set i (some (.l z.2)))
    | _=>none
  | _=>none
theorem uP{r:V→List V→Hp→VK→Prop}{g:List Nf→List Nf→Option (Nf × List Nf)}(hm:nR K r g){σ:L2.St}{H:Hp}{Q:VK}(h:fE K (cg g fo fs) σ H Q):JT K "list" r (fE K fo) (fA K fs) σ H Q:=by
  obtain⟨F,e,z,e',R,hf,q⟩:=h
  unfold cg at hf
  obtain⟨⟨x,e1⟩,h1,hf⟩:=M7 hf
  match x,h1,hf with
  | .s i,h1,hf=>
  dsimp only at hf
  obtain⟨⟨rs,e2⟩,h2,hf⟩:=M7 hf
  obtain⟨ds,h3,hf⟩:=M7 hf
  refine⟨F,e,_,e1,R,h1,fun F1 H1 v X1 R1 A1=>?_⟩
  obtain⟨g1,zs,g2⟩:=A1
  obtain⟨l,vs,c1,c2,c3,c4⟩:=R1.own i zs g2
  rw [g1] at c1;cases c1
  refine⟨.inl ⟨rfl,vs,.inl (.inl c3)⟩,F1,e1,rs,e2,R1,h2,fun F2 H2 us X2 R2 A2=>?_⟩
  match h4:e2[i]?,hf with
  | some (some (.l xs)),hf=>
  dsimp only at hf
  obtain⟨⟨zd,ys⟩,h5,hf⟩:=M8 hf
  cases hf
  obtain⟨F3,R3,s3,d3,f3⟩:=dB.frozen R2 A2 h3
  obtain⟨l',vs',k1,k2,k3,k4⟩:=R3.own i xs h4
  rw [g1] at k1;cases k1
  refine hm F3 H2 l xs ys ds zd vs' us Q k2 R3.sm k3 k4 d3 h5 fun w ws hw hws=>?_
  obtain⟨R4,X4⟩:=R3.putL h4 g1 hws
  exact q _ _ _ ((X1.trans (X2.frz s3 f3)).trans X4) R4 hw
theorem Dz{r:V→List V→Hp→VK→Prop}{g:List Nf→List Nf→Option (Nf × List Nf)}(slot:Slot "list" name id)(hty:typeOf (.builtin id)=pure (.type "method_descriptor"))(hm:DR X id r)(hf:nR X.K r g)(ho:PE X o (fE X.K fo))(ha:PA X (a::es) (fA X.K fs))
    (hbase:Oy o name X.env (Nt o X.env)=Nt o X.env)
    (hfew:((ND cpos (Nq (a::es) X.env)).all (fun x=> !x.1)&&(OT cpos (OU [] X.env)).all (fun x=>x.1.isSome)
      &&decide ((a::es).length+([]:List Oi).length+(if ([]:List Oi).isEmpty then 0 else 1) < 30))=true)
    (hline:(apos.endLine==cpos.line)=true)(hs:Nq (a::es) X.env=(false,Nt a X.env)::Nq es X.env)(hplain:(ND cpos (Nq es X.env)).any (·.1)=false):
    PE X (.Call (.Attribute o name apos) (a::es) [] cpos) (fE X.K (cg g fo fs)):=(zK PySem.F.plainAttrs_list slot hty hm ho ha hbase hfew hline hs hplain).mono fun _ _ _ h=>uP hf h
theorem z8{r:V→List V→Hp→VK→Prop}{g:List Nf→List Nf→Option (Nf × List Nf)}(slot:Slot "list" name id)(hty:typeOf (.builtin id)=pure (.type "method_descriptor"))(hm:DR X id r)(hf:nR X.K r g)(ho:PE X o (fE X.K fo))
    (hbase:Oy o name X.env (Nt o X.env)=Nt o X.env)(hline:(apos.endLine==cpos.line)=true):PE X (.Call (.Attribute o name apos) [] [] cpos) (fE X.K (cg g fo ah)):=(zL PySem.F.plainAttrs_list slot hty hm ho hbase hline).mono fun σ H Q h=>by
  obtain⟨F,e,r',e',R,hf',q⟩:=uP hf h
  refine⟨F,e,r',e',R,hf',fun F1 H1 v X1 R1 A1=>?_⟩
  obtain⟨ty,G,e2,rs,e3,R2,h2,q2⟩:=q F1 H1 v X1 R1 A1
  cases h2
  exact⟨ty,q2 G H1 [] (cW.refl _ _ _ _) R2 rfl⟩
def bO:List Nf→List Nf→Option (Nf × List Nf):=fun xs ds=>match ds with
  | [d]=>if xs.length < 1000000 then some (.none,xs++[d]) else none
  | _=>none
theorem yp:nR K wM bO:=by
  intro F H l xs ys ds z vs us Q hF sm hl d1 d2 hg q
  unfold bO at hg
  match ds,hg,d2 with
  | [d],hg,d2=>
    simp only [aQ] at d2
    obtain⟨w,r,rfl,hw,rfl⟩:=d2
    dsimp only at hg
    split at hg
    case isFalse=>cases hg
    case isTrue hlt=>
    cases hg
    have:=d1.len
    have sl:Ny=16777216:=Oh
    exact⟨l,vs,w,rfl,rfl,hl,by lia,q _ _ (eu.mpr rfl) (d1.append (aQ.one hw))⟩
def m9:List Nf→List Nf→Option (Nf × List Nf):=fun xs ds=>match ds with
  | []=>(xs[xs.length - 1]?).map fun d=>(d,xs.dropLast)
  | _=>none
theorem aQ.dropLast{F:Hp}{ds:List Nf}{vs:List V}(h:aQ K F ds vs):aQ K F ds.dropLast vs.dropLast:=by
  rw [List.dropLast_eq_take,List.dropLast_eq_take,h.len];exact h.take _
theorem Hj:nR K Hz m9:=by
  intro F H l xs ys ds z vs us Q hF sm hl d1 d2 hg q
  unfold m9 at hg
  match ds,hg,d2 with
  | [],hg,d2=>
    simp only [aQ] at d2
    subst d2
    obtain⟨d,h1,h2⟩:=M8 hg
    cases h2
    obtain⟨v,g1,g2⟩:=d1.get h1
    rw [d1.len] at g1
    exact⟨l,vs,v,rfl,rfl,hl,g1,q _ _ g2 d1.dropLast⟩
def gc:List Nf→List Nf→Option (Nf × List Nf):=fun xs ds=>match ds with
  | [.int i]=>if 0≤i∧i < 1000000000 then(xs[i.toNat]?).map fun d=>(d,xs.eraseIdx i.toNat) else none
  | _=>none
theorem Cp:nR K Ag gc:=by
  intro F H l xs ys ds z vs us Q hF sm hl d1 d2 hg q
  unfold gc at hg
  match ds,hg,d2 with
  | [.int i],hg,d2=>
    simp only [aQ,DA] at d2
    obtain⟨w,r,rfl,rfl,rfl⟩:=d2
    dsimp only at hg
    split at hg
    case isFalse=>cases hg
    case isTrue hlt=>
    obtain⟨d,h1,h2⟩:=M8 hg
    cases h2
    obtain⟨v,g1,g2⟩:=d1.get h1
    have hlt2:i.toNat < vs.length:=(M9 g1).1
    exact⟨l,vs,i,i.toNat,v,rfl,rfl,hl,by lia,by lia,seqIndex_of hlt.1 (by lia),g1,q _ _ g2 (d1.erase _)⟩
end
inductive Fl where
  | nx (e:En)
  | bk (e:En)
  | ct (e:En)
  | rt (r:Rv) (e:En)
abbrev FS:=En→Option Fl
structure dc (W:List Nat) (σ:L2.St) (F H:Hp) (e:En) (σ':L2.St) (F' H':Hp) (e':En):Prop where
  sf:ao F F'
  dom:∀a,H' a=none→H a=none
  fr:∀a vs,F a=none→H a=some (.lst vs)→¬bz σ e H a→F' a=none
  lst:∀a vs,H a=some (.lst vs)→∃vs',H' a=some (.lst vs')
  tmp:∀a o,H a=some o→¬bz σ e H a→H' a=some o
  own:∀a,bz σ' e' H' a→bz σ e H a∨H a=none
  wr:∀j,j∉W→σ'[j]?=σ[j]?
  fd:∀a (m:DI),F a=none→H a=some m.1→¬bz σ e H a→F' a=none
section
variable{K:Ng}{W W1 W2:List Nat}{σ σ1 σ2 σ':L2.St}{H0 F H F1 H1 F2 H2 F' H':Hp}{e e1 e2 e':En}
theorem dc.refl:dc W σ F H e σ F H e:=⟨ao.refl _,fun _ h=>h,fun _ _ h _ _=>h,fun _ vs h=>⟨vs,h⟩,fun _ _ h _=>h,fun _ h=>.inl h,fun _ _=>rfl,fun _ _ h _ _=>h⟩
theorem cW.s(x:cW σ F H e F' H' e'):dc W σ F H e σ F' H' e':=⟨x.sf,x.dom,x.fr,x.lst,x.tmp,x.ow,fun _ _=>rfl,x.fd⟩
theorem dc.trans(x:dc W σ F H e σ1 F1 H1 e1)(y:dc W σ1 F1 H1 e1 σ2 F2 H2 e2):dc W σ F H e σ2 F2 H2 e2:=
  ⟨x.sf.trans y.sf,fun a h=>x.dom a (y.dom a h),fun a vs h n no=>let ⟨vs',q⟩:=x.lst a vs n;y.fr a vs' (x.fr a vs h n no) q (fun z=>(x.own a z).elim no fun z=>by rw [n] at z;cases z),fun a vs h=>let ⟨vs',q⟩:=x.lst a vs h;y.lst a vs' q,
    fun a o h n=>y.tmp a o (x.tmp a o h n) (fun z=>(x.own a z).elim n fun z=>by rw [h] at z;cases z),
    fun a h=>(y.own a h).elim (x.own a) (fun z=>.inr (x.dom a z)),
    fun j h=>(y.wr j h).trans (x.wr j h),
    fun a m h n no=>y.fd a m (x.fd a m h n no) (x.tmp a _ n no) (fun z=>(x.own a z).elim no fun z=>by rw [n] at z;cases z)⟩
theorem dc.mono(x:dc W1 σ F H e σ' F' H' e')(h:∀j,j∈W1→j∈W):dc W σ F H e σ' F' H' e':=⟨x.sf,x.dom,x.fr,x.lst,x.tmp,x.own,fun j n=>x.wr j fun z=>n (h j z),x.fd⟩
end
def oC(K:Ng)(W:List Nat)(σ:L2.St)(F H:Hp)(e:En)(D:p4):Fl→Prop
  | .nx e'=>∀F' H' σ',dc W σ F H e σ' F' H' e'→aW K F' H' σ' e'→D.nx σ' H'
  | .bk e'=>∀F' H' σ',dc W σ F H e σ' F' H' e'→aW K F' H' σ' e'→D.bk σ' H'
  | .ct e'=>∀F' H' σ',dc W σ F H e σ' F' H' e'→aW K F' H' σ' e'→D.ct σ' H'
  | .rt r e'=>∀F' H' σ' v,dc W σ F H e σ' F' H' e'→aW K F' H' σ' e'→ce K σ' H F' H' e' r v→D.rt v H'
def fS(K:Ng)(f:FS)(W:List Nat):TS:=fun D σ H=>∃F e fl,aW K F H σ e∧f e=some fl∧oC K W σ F H e D fl
theorem PS.mono{X:Cx}{st:Nm}{t t':TS}(h:PS X st t)(m:∀D σ H,t' D σ H→t D σ H):PS X st t':=fun pins s σ H D I q=>h pins s σ H D I (m D σ H q)
theorem jh.mono{X:Cx}{st:List Nm}{t t':TS}(h:jh X st t)(m:∀D σ H,t' D σ H→t D σ H):jh X st t':=fun pins s σ H D I q=>h pins s σ H D I (m D σ H q)
theorem oC.later{K:Ng}{W W1 W2:List Nat}{σ σ1:L2.St}{F H F1 H1:Hp}{e e1:En}{D:p4}{fl:Fl}(h:oC K W σ F H e D fl)(x:dc W1 σ F H e σ1 F1 H1 e1)(h1:∀j,j∈W1→j∈W)(h2:∀j,j∈W2→j∈W):oC K W2 σ1 F1 H1 e1 D fl:=by
  cases fl with
  | nx e'=>exact fun F' H' σ' y R=>h F' H' σ' ((x.mono h1).trans (y.mono h2)) R
  | bk e'=>exact fun F' H' σ' y R=>h F' H' σ' ((x.mono h1).trans (y.mono h2)) R
  | ct e'=>exact fun F' H' σ' y R=>h F' H' σ' ((x.mono h1).trans (y.mono h2)) R
  | rt r e'=>exact fun F' H' σ' v y R A=>h F' H' σ' v ((x.mono h1).trans (y.mono h2)) R (A.weak x.dom)
section
variable{X:Cx}{K:Ng}{W W1 W2:List Nat}{st:Nm}{cn:List Nm}{f g:FS}{a b:Nh}{fa:FE}{ft:FT}{pos:Pos}
def cL:FS:=fun e=>some (.nx e)
def aO(f g:FS):FS:=fun e=>(f e).bind fun fl=>match fl with
  | .nx e1=>g e1
  | fl=>some fl
theorem aZ:jh X [] (fS K cL []):=wH.mono fun D σ H h=>by
  obtain⟨F,e,fl,R,hf,q⟩:=h
  cases hf
  exact q F H σ dc.refl R
theorem af(h1:PS X st (fS K f W1))(h2:jh X cn (fS K g W2)):jh X (st::cn) (fS K (aO f g) (W1++W2)):=(ly h1 h2).mono fun D σ H h=>by
  obtain⟨F,e,fl,R,hf,q⟩:=h
  unfold aO at hf
  obtain⟨fl1,h1,hf⟩:=M7 hf
  have s1:∀j,j∈W1→j∈W1++W2:=fun j h=>Ov.mpr (.inl h)
  have s2:∀j,j∈W2→j∈W1++W2:=fun j h=>Ov.mpr (.inr h)
  refine⟨F,e,fl1,R,h1,?_⟩
  cases fl1 with
  | nx e1=>exact fun F' H' σ' x R'=>⟨F',e1,fl,R',hf,q.later x s1 s2⟩
  | bk e1=>cases hf;exact fun F' H' σ' x R'=>q F' H' σ' (x.mono s1) R'
  | ct e1=>cases hf;exact fun F' H' σ' x R'=>q F' H' σ' (x.mono s1) R'
  | rt r e1=>cases hf;exact fun F' H' σ' v x R' A=>q F' H' σ' v (x.mono s1) R' A
theorem am(h1:PS X st (fS K f W)):jh X [st] (fS K f W):=sD h1
def eP(fa:FE):FS:=fun e=>(fa e).map fun p=>.nx p.2
theorem fj(he:PE X a (fE K fa))(hs:Pa a none pos.line X.env=pure false):PS X (.Expr a pos) (fS K (eP fa) []):=(Cr he hs).mono fun D σ H h=>by
  obtain⟨F,e,fl,R,hf,q⟩:=h
  obtain⟨⟨x,e1⟩,h1,hf⟩:=M8 hf
  cases hf
  exact⟨F,e,x,e1,R,h1,fun F1 H1 v X1 R1 A1=>q F1 H1 σ X1.s R1⟩
def bg(fa:FE):FS:=fun e=>(fa e).map fun p=>.rt p.1 p.2
theorem aw(he:PE X a (fE K fa)):PS X (.Return (some a) pos) (fS K (bg fa) []):=(vK he).mono fun D σ H h=>by
  obtain⟨F,e,fl,R,hf,q⟩:=h
  obtain⟨⟨x,e1⟩,h1,hf⟩:=M8 hf
  cases hf
  exact⟨F,e,x,e1,R,h1,fun F1 H1 v X1 R1 A1=>q F1 H1 σ v X1.s R1 A1⟩
def i4(ft:FT)(f g:FS):FS:=fun e=>(ft e).bind fun p=>if p.1=true then f p.2 else g p.2
theorem cu{c:Nh}{bs cs:List Nm}(hc:PT X c (fT K ft))(ha:jh X bs (fS K f W1))(hb:jh X cs (fS K g W2)):PS X (.If c bs cs pos) (fS K (i4 ft f g) (W1++W2)):=(Du hc ha hb).mono fun D σ H h=>by
  obtain⟨F,e,fl,R,hf,q⟩:=h
  unfold i4 at hf
  obtain⟨⟨x,e1⟩,h1,hf⟩:=M7 hf
  refine⟨F,e,x,e1,R,h1,fun F1 H1 X1 R1=>?_⟩
  cases x with
  | true=>exact⟨F1,e1,fl,R1,hf,q.later (W1:=[]) X1.s (fun j h=>by cases h) fun j h=>Ov.mpr (.inl h)⟩
  | false=>exact⟨F1,e1,fl,R1,hf,q.later (W1:=[]) X1.s (fun j h=>by cases h) fun j h=>Ov.mpr (.inr h)⟩
def sE(i:Nat)(r:Rv)(e:En):Option En:=match r with
  | .d x=>some (e.set i (some (.d x)))
  | .l xs=>some (e.set i (some (.l xs)))
  | .s _=>none
theorem Fq{σ:L2.St}{H F H1 F1:Hp}{e e1 e2:En}{i:Nat}{r:Rv}{v:V}(R:aW K F H σ e)(X1:cW σ F H e F1 H1 e1)(R1:aW K F1 H1 σ e1)(A1:ce K σ H F1 H1 e1 r v)(h:sE i r e1=some e2):
    dc [i] σ F H e (σ.set i (some v)) F1 H1 e2∧aW K F1 H1 (σ.set i (some v)) e2:=by
  have wr:∀j,j∉[i]→(σ.set i (some v))[j]?=σ[j]?:=fun j n=>NC (fun z=>n (by simp [z]))
  cases r with
  | d x=>
    cases h
    obtain⟨R2,o2⟩:=R1.setD i A1
    exact⟨⟨X1.sf,X1.dom,X1.fr,X1.lst,X1.tmp,fun a h=>X1.ow a (o2 a h),wr,X1.fd⟩,R2⟩
  | l xs=>
    cases h
    obtain⟨l,vs,rfl,h1,h2,h3,h4,h5⟩:=A1
    obtain⟨R2,o2⟩:=R1.setL i h2 h3 h4 h5
    refine⟨⟨X1.sf,X1.dom,X1.fr,X1.lst,X1.tmp,fun a h=>?_,wr,X1.fd⟩,R2⟩
    rcases o2 a h with z | z
    · exact X1.ow a z
    · exact .inr (by rw [z];exact h1)
  | s j=>cases h
def bi(i:Nat)(fa:FE):FS:=fun e=>(fa e).bind fun p=>(sE i p.1 p.2).map .nx
theorem aM{i:Nat}{x:Str}{pos':Pos}(hN:X.N.Nodup)(hi:X.N[i]?=some x)(hx:yj X.env.scope x)(he:PE X a (fE K fa))(hs:Pa a (some (.Name x pos')) pos.line X.env=pure false)(hf:X.fn x=true∨X.env.scope.names.lookup x=some .local):
    PS X (.Assign [.Name x pos'] a pos) (fS K (bi i fa) [i]):=(o_ hN hi hx he hs hf).mono fun D σ H h=>by
  obtain⟨F,e,fl,R,hf,q⟩:=h
  unfold bi at hf
  obtain⟨⟨r,e1⟩,h1,hf⟩:=M7 hf
  obtain⟨e2,h2,hf⟩:=M8 hf
  cases hf
  refine⟨F,e,r,e1,R,h1,fun F1 H1 v X1 R1 A1=>?_⟩
  obtain⟨x,R2⟩:=Fq R X1 R1 A1 h2
  exact q F1 H1 _ x R2
abbrev FG:=Nf→En→Option En
def fG(K:Ng)(g:FG)(W:List Nat):TG:=fun v σ H Q=>∃F e x e',aW K F H σ e∧DA K F x v∧g x e=some e'∧∀σ',dc W σ F H e σ' F H e'→aW K F H σ' e'→Q σ' H
abbrev C5:=List Nf→En→Option En
def Iu(K:Ng)(g:C5)(W:List Nat):A6:=fun vs σ H Q=>∃F e xs e',aW K F H σ e∧aQ K F xs vs∧g xs e=some e'∧∀σ',dc W σ F H e σ' F H e'→aW K F H σ' e'→Q σ' H
theorem PG.mono{tg:Nh}{t t':TG}(h:PG X tg t)(m:∀v σ H Q,t' v σ H Q→t v σ H Q):PG X tg t':=fun pins s σ H v u Q I r q=>h pins s σ H v u Q I r (m v σ H Q q)
theorem yk.mono{tg:List Nh}{t t':A6}(h:yk X tg t)(m:∀v σ H Q,t' v σ H Q→t v σ H Q):yk X tg t':=fun pins s σ H v u Q I r q=>h pins s σ H v u Q I r (m v σ H Q q)
def aj(i:Nat):FG:=fun x e=>some (e.set i (some (.d x)))
def bM:C5:=fun xs e=>match xs with
  | []=>some e
  | _=>none
def aB(g:FG)(gs:C5):C5:=fun xs e=>match xs with
  | x::r=>(g x e).bind fun e1=>gs r e1
  | _=>none
def bZ(gs:C5):FG:=fun x e=>match x with
  | .tuple xs=>gs xs e
  | _=>none
theorem aJ{i:Nat}{x:Str}(hN:X.N.Nodup)(hi:X.N[i]?=some x)(hx:yj X.env.scope x)(hf:X.fn x=true∨X.env.scope.names.lookup x=some .local):PG X (.Name x pos) (fG K (aj i) [i]):=(sC hN hi hx hf).mono fun v σ H Q h=>by
  obtain⟨F,e,x,e',R,hx,hg,q⟩:=h
  cases hg
  obtain⟨R2,o2⟩:=R.setD i hx
  exact q _ ⟨ao.refl _,fun _ h=>h,fun _ _ h _ _=>h,fun _ vs h=>⟨vs,h⟩,fun _ _ h _=>h,fun a h=>.inl (o2 a h),fun j n=>NC (fun z=>n (by simp [z])),fun _ _ h _ _=>h⟩ R2
theorem eD:yk X [] (Iu K bM []):=wG.mono fun v σ H Q h=>by
  obtain⟨F,e,x,e',R,hx,hg,q⟩:=h
  unfold bM at hg
  split at hg
  · cases hg
    simp only [aQ] at hx
    exact⟨hx,q σ dc.refl R⟩
  · cases hg
theorem bc{es:List Nh}{g1:FG}{gs:C5}(h1:PG X a (fG K g1 W1))(h2:yk X es (Iu K gs W2))
    (hs:(NY (a::es) X.env).map (·.2)=assign a X.env::(NY es X.env).map (·.2)):yk X (a::es) (Iu K (aB g1 gs) (W1++W2)):=(o6 h1 h2 hs).mono fun v σ H Q h=>by
  obtain⟨F,e,xs,e',R,hx,hg,q⟩:=h
  unfold aB at hg
  match xs,hg,hx with
  | x::r,hg,hx=>
    simp only [aQ] at hx
    obtain⟨w,ws,e1,hw,hr⟩:=hx
    dsimp only at hg
    obtain⟨e1',h3,h4⟩:=M7 hg
    refine⟨w,ws,e1,F,e,x,e1',R,hw,h3,fun σ1 x1 R1=>⟨F,e1',r,e',R1,hr,h4,fun σ2 x2 R2=>?_⟩⟩
    exact q σ2 ((x1.mono fun j h=>Ov.mpr (.inl h)).trans (x2.mono fun j h=>Ov.mpr (.inr h))) R2
theorem gS{es:List Nh}{k n:Nat}{gs:C5}(hK:X.K=K)(hc:X.calm=true)(h:yk X es (Iu K gs W))(hl:∀xs e e',gs xs e=some e'→xs.length=n)(hn:(NY es X.env).length=n)(hst:(NY es X.env).findIdx? (·.1)=none):PG X (.Tuple es k pos) (fG K (bZ gs) W):=(wF hK hc h hn hst).mono fun v σ H Q h=>by
  obtain⟨F,e,x,e',R,hx,hg,q⟩:=h
  unfold bZ at hg
  match x,hg,hx with
  | .tuple xs,hg,hx=>
    obtain⟨p,vs,e1,e2,e3⟩:=df.mp hx
    exact⟨p,vs,e1,R.sm.tup e2,by rw [←e3.len];exact hl xs e e' hg,F,e,xs,e',R,e3,hg,q⟩
theorem gQ(xs:List Nf)(e e':En)(h:bM xs e=some e'):xs.length=0:=by
  unfold bM at h
  split at h
  · rfl
  · cases h
theorem bu{g:FG}{gs:C5}{n:Nat}(hl:∀xs e e',gs xs e=some e'→xs.length=n)(xs:List Nf)(e e':En)(h:aB g gs xs e=some e'):xs.length=n+1:=by
  unfold aB at h
  match xs,h with
  | x::r,h=>
    obtain⟨e1,h3,h4⟩:=M7 h
    simp [hl r e1 e' h4]
def lD(fa:FE)(g:FG):FS:=fun e=>(fa e).bind fun p=>match p.1 with
  | .d x=>(g x p.2).map .nx
  | _=>none
theorem ph{tg:Nh}{g:FG}(he:PE X a (fE K fa))(hg:PG X tg (fG K g W))(hs:Qc [tg] a pos.line X.env=pure false)(hw:Qd [tg] a X.env=pure none)
    (h1:(NY [tg] X.env).map (·.2)=[assign tg X.env]):PS X (.Assign [tg] a pos) (fS K (lD fa g) W):=(zU he hg hs hw h1).mono fun D σ H h=>by
  obtain⟨F,e,fl,R,hf,q⟩:=h
  unfold lD at hf
  obtain⟨⟨r,e1⟩,h1,hf⟩:=M7 hf
  match r,h1,hf with
  | .d x,h1,hf=>
    obtain⟨e2,h2,hf⟩:=M8 hf
    cases hf
    exact⟨F,e,_,e1,R,h1,fun F1 H1 v X1 R1 A1=>⟨F1,e1,x,e2,R1,A1,h2,fun σ' x2 R2=>q F1 H1 σ' (X1.s.trans x2) R2⟩⟩
def qg(i j:Nat)(fs:FA):FS:=fun e=>(fs e).bind fun p=>match p.1 with
  | [.d x,.d y]=>some (.nx ((p.2.set i (some (.d x))).set j (some (.d y))))
  | _=>none
theorem Fy{i j:Nat}{x y:Str}{fs:FA}{px py pt:Pos}{kt k2 pt2}(hc:X.calm=true)(hN:X.N.Nodup)(hi:X.N[i]?=some x)(hj:X.N[j]?=some y)(hij:i≠j)
    (hx:X.env.scope.names.lookup x=some .local)(hy:X.env.scope.names.lookup y=some .local)(ha:PA X [a,b] (fA K fs))
    (hw:Qd [.Tuple [.Name x px,.Name y py] kt pt] (.Tuple [a,b] k2 pt2) X.env=pure (some [x,y]))
    (hs:Qc [.Tuple [.Name x px,.Name y py] kt pt] (.Tuple [a,b] k2 pt2) pos.line X.env=pure false):
    PS X (.Assign [.Tuple [.Name x px,.Name y py] kt pt] (.Tuple [a,b] k2 pt2) pos) (fS K (qg i j fs) [i,j]):=(Fk hc hN hi hj hij hx hy ha hw hs).mono fun D σ H h=>by
  obtain⟨F,e,fl,R,hf,q⟩:=h
  unfold qg at hf
  obtain⟨⟨rs,e1⟩,h1,hf⟩:=M7 hf
  refine⟨F,e,rs,e1,R,h1,fun F1 H1 vs X1 R1 A1=>?_⟩
  match rs,hf,A1 with
  | [.d x,.d y],hf,A1=>
    cases hf
    obtain⟨v,u,rfl,a1,a2⟩:=wQ A1
    obtain⟨R2,o2⟩:=R1.setD i a1
    obtain⟨R3,o3⟩:=R2.setD j a2
    refine⟨v,u,rfl,q F1 H1 _ ⟨X1.sf,X1.dom,X1.fr,X1.lst,X1.tmp,fun a h=>X1.ow a (o2 a (o3 a h)),fun m n=>?_,X1.fd⟩ R3⟩
    rw [NC (fun z=>n (by simp [z])),NC (fun z=>n (by simp [z]))]
def gO:Rv→Option Nf
  | .d x=>some x
  | .l xs=>some (.list xs)
  | .s _=>none
theorem xA{r:Rv}{d:Nf}(h:gO r=some d):gF [r]=some [d]:=by
  cases r with
  | d x=>cases h;rfl
  | l xs=>cases h;rfl
  | s i=>cases h
def i9(ft:FT)(f:FS):Nat→FS
  | 0,_=>none
  | n+1,e=>(ft e).bind fun p=>if p.1=true then(f p.2).bind fun fl=>match fl with
      | .nx e1=>i9 ft f n e1
      | .ct e1=>i9 ft f n e1
      | .bk e1=>some (.nx e1)
      | .rt r e1=>some (.rt r e1)
    else some (.nx p.2)
def pE(n:Nat)(ft:FT)(f:FS):FS:=i9 ft f n
theorem ut{n:Nat}{c:Nh}{body:List Nm}(hp:PassesOwn (Nr X.prog X.w) X.A X.env X.xe)(hc:PT X c (fT K ft))(hb:jh X body (fS K f W)):PS X (.While c body [] pos) (fS K (pE n ft f) W):=(zW hp hc hb).mono fun D σ H h=>by
  refine⟨fun m σ H=>∃F e fl,aW K F H σ e∧i9 ft f m e=some fl∧oC K W σ F H e D fl,⟨n,h⟩,?_⟩
  rintro m σ H ⟨F,e,fl,R,hf,q⟩
  cases m with
  | zero=>cases hf
  | succ m=>
    unfold i9 at hf
    obtain⟨⟨x,e1⟩,h1,hf⟩:=M7 hf
    refine⟨F,e,x,e1,R,h1,fun F1 H1 X1 R1=>?_⟩
    have sub:∀j,j∈([]:List Nat)→j∈W:=fun j h=>by cases h
    cases x with
    | false=>
      rw [if_neg (by simp)] at hf
      cases hf
      exact GU (q F1 H1 σ X1.s R1)
    | true=>
      rw [if_pos rfl] at hf
      refine GV ?_
      obtain⟨fl1,h2,hf⟩:=M7 hf
      have q1:oC K W σ F1 H1 e1 D fl:=q.later (W1:=[]) X1.s sub fun j h=>h
      refine⟨fun σ' H'=>∃F' e',aW K F' H' σ' e'∧i9 ft f m e'=some fl∧oC K W σ' F' H' e' D fl,fun σ' H' ⟨F',e',r1,r2,r3⟩=>⟨m,Nat.lt_succ_self m,F',e',fl,r1,r2,r3⟩,F1,e1,fl1,R1,h2,?_⟩
      cases fl1 with
      | nx e2=>exact fun F2 H2 σ2 x R2=>⟨F2,e2,R2,hf,q1.later x (fun j h=>h) fun j h=>h⟩
      | ct e2=>exact fun F2 H2 σ2 x R2=>⟨F2,e2,R2,hf,q1.later x (fun j h=>h) fun j h=>h⟩
      | bk e2=>cases hf;exact fun F2 H2 σ2 x R2=>q1 F2 H2 σ2 x R2
      | rt r e2=>cases hf;exact fun F2 H2 σ2 v x R2 A=>q1 F2 H2 σ2 v x R2 A
end
theorem PI.mono{X:Cx}{tg iter:Nh}{t t':TI}(h:PI X tg iter t)(m:∀σ H R,t' σ H R→t σ H R):PI X tg iter t':=fun pins s σ H R I q=>h pins s σ H R I (m σ H R q)
theorem PI.or{X:Cx}{tg iter:Nh}{t t':TI}(h:PI X tg iter t)(h':PI X tg iter t'):PI X tg iter (fun σ H R=>t σ H R∨t' σ H R):=fun pins s σ H R I q=>by
  rcases q with q | q
  · exact h pins s σ H R I q
  · exact h' pins s σ H R I q
abbrev iz:=List (Nat × List Nf)
def ym(K:Ng)(σ:L2.St)(F H:Hp)(own:iz):Prop:=∀p∈own,∃l vs,σ[p.1]?=some (some (.ref l))∧H l=some (.lst vs)∧aQ K F p.2 vs
def Bg(K:Ng)(σ:L2.St)(J:It)(items:List Nf)(own:iz)(F0:Hp):Prop:=∀F H,ao F0 F→ao F H→ym K σ F H own→
  (∀i,i < items.length→J.go i H)∧(∀i,items.length≤i→J.stop i H)∧∀i d x H',items[i]?=some d→J.yld i H x H'→∃F',ao H H'∧ao F F'∧ao F' H'∧(∀a,F a=none→H a≠none→F' a=none)∧DA K F' d x
abbrev FI:=En→Option (List Nf × iz × En)
def keeps(own:iz)(e:En):Prop:=∀p∈own,e[p.1]?=some (some (.l p.2))
def fI(K:Ng)(f:FI):TI:=fun σ H R=>∃F e items own e',aW K F H σ e∧f e=some (items,own,e')∧∀J F' H',cW σ F H e F' H' e'→aW K F' H' σ e'→keeps own e'→Bg K σ J items own F'→R J H'
section
variable{K:Ng}{σ:L2.St}{H0 F H F' H':Hp}{e e':En}
theorem aW.held(R:aW K F H σ e){own:iz}(h:keeps own e):ym K σ F H own:=fun p hp=>by
  obtain⟨l,vs,h1,h2,h3,h4⟩:=R.own p.1 p.2 (h p hp)
  exact⟨l,vs,h1,h3,h4⟩
theorem aW.step(R:aW K F H σ e)(s:ao H H')(sF:ao F F')(sm:ao F' H')(fz:∀a,F a=none→H a≠none→F' a=none):aW K F' H' σ e∧cW σ F H e F' H' e:=by
  obtain⟨R',o'⟩:=R.keep sF sm (fun a ⟨i,h⟩=>by
    obtain⟨h1,vs,h2⟩:=R.fpAt h
    exact fz a h1 (by rw [h2];simp)) fun a o _ h=>s a o h
  exact⟨R',⟨sF,fun a h=>s.free h,fun a vs h1 h2 _=>fz a h1 (by rw [h2];simp),fun a vs h=>⟨vs,s _ _ h⟩,fun a o h _=>s a o h,fun _=>Iff.rfl,fun a h=>.inl ((o' a).mp h),fun a m h1 h2 _=>fz a h1 (by rw [h2];simp)⟩⟩
inductive C7 (K:Ng) (σ:L2.St) (F:Hp) (p:xM):Bool→List Nf→iz→Prop
  | tup {xs vs}:dW K F p vs→aQ K F xs vs→C7 K σ F p false xs []
  | lst {xs vs}:iu K F p vs→aQ K F xs vs→C7 K σ F p true xs []
  | own {i xs}:σ[i]?=some (some (.ref p))→C7 K σ F p true xs [(i,xs)]
theorem C7.at{p:xM}{b:Bool}{xs:List Nf}{own:iz}{F0:Hp}(h:C7 K σ F0 p b xs own)(s0:ao F0 F)(s1:ao F H){own':iz}(hh:ym K σ F H own')(hs:∀q∈own,q∈own'):∃vs,aQ K F xs vs∧(if b=true then iu K H p vs else dW K H p vs):=by
  cases h with
  | tup h1 h2=>exact⟨_,h2.mono s0,(s0.trans s1).tup h1⟩
  | lst h1 h2=>exact⟨_,h2.mono s0,(s0.trans s1).seq h1⟩
  | @own i xs h1=>
    obtain⟨l,vs,g1,g2,g3⟩:=hh (i,xs) (hs (i,xs) (by simp))
    dsimp only at g1 g3
    rw [h1] at g1;cases g1
    exact⟨vs,g3,.inl (.inl g2)⟩
def FV(e:En):Rv→Option (Bool × List Nf × iz)
  | .d (.tuple xs)=>some (false,xs,[])
  | .d (.list xs)=>some (true,xs,[])
  | .l xs=>some (true,xs,[])
  | .s i=>match e[i]? with
    | some (some (.l xs))=>some (true,xs,[(i,xs)])
    | _=>none
  | _=>none
theorem wZ{r:Rv}{v:V}{b:Bool}{xs:List Nf}{own:iz}(R:aW K F H σ e)(A:ce K σ H0 F H e r v)(h:FV e r=some (b,xs,own)):
    ∃F' p,aW K F' H σ e∧ao F F'∧(∀a,F a=none→H0 a≠none→F' a=none)∧v=.ref p∧C7 K σ F' p b xs own∧keeps own e:=by
  cases r with
  | d x=>
    cases x with
    | tuple ds=>
      cases h
      obtain⟨a,ys,e1,e2,e3⟩:=df.mp A
      exact⟨F,a,R,ao.refl _,fun _ h _=>h,e1,.tup e2 e3,fun p hp=>by cases hp⟩
    | list ds=>
      cases h
      obtain⟨a,ys,e1,e2,e3⟩:=eV.mp A
      exact⟨F,a,R,ao.refl _,fun _ h _=>h,e1,.lst e2 e3,fun p hp=>by cases hp⟩
    | _=>cases h
  | l ys=>
    cases h
    obtain⟨F',R',s',d',f'⟩:=A.frozen R
    obtain⟨a,ys,e1,e2,e3⟩:=eV.mp d'
    exact⟨F',a,R',s',f',e1,.lst e2 e3,fun p hp=>by cases hp⟩
  | s i=>
    obtain⟨h1,ys,h2⟩:=A
    simp only [FV,h2] at h
    cases h
    obtain⟨l,vs,e1,e2,e3,e4⟩:=R.own i _ h2
    rw [h1] at e1;cases e1
    exact⟨F,l,R,ao.refl _,fun _ h _=>h,rfl,.own h1,fun p hp=>by simp only [NX] at hp;subst hp;exact h2⟩
theorem xJ{p:xM}{xs:List Nf}{own:iz}{F0:Hp}(h:C7 K σ F0 p true xs own):Bg K σ (II K p) xs own F0:=by
  intro F H s0 s1 hh
  obtain⟨vs,d,q⟩:=h.at s0 s1 hh fun _ h=>h
  have q:iu K H p vs:=q
  refine⟨fun i hi=>⟨vs,vs[i]'(by rw [←d.len];exact hi),q,OF _⟩,fun i hi=>⟨vs,q,by rw [←d.len];exact hi⟩,fun i x v H' hx hy=>?_⟩
  obtain⟨rfl,hy⟩:=hy
  obtain⟨w,g1,g2⟩:=d.get hx
  have e:=hy vs q
  rw [g1] at e;cases e
  exact⟨F,ao.refl _,ao.refl _,s1,fun _ h _=>h,g2⟩
theorem y6{p:xM}{xs:List Nf}{own:iz}{F0:Hp}(h:C7 K σ F0 p false xs own):Bg K σ (IJ K p) xs own F0:=by
  intro F H s0 s1 hh
  obtain⟨vs,d,q⟩:=h.at s0 s1 hh fun _ h=>h
  have q:dW K H p vs:=q
  refine⟨fun i hi=>⟨vs,vs[i]'(by rw [←d.len];exact hi),q,OF _⟩,fun i hi=>⟨vs,q,by rw [←d.len];exact hi⟩,fun i x v H' hx hy=>?_⟩
  obtain⟨rfl,hy⟩:=hy
  obtain⟨w,g1,g2⟩:=d.get hx
  have e:=hy vs q
  rw [g1] at e;cases e
  exact⟨F,ao.refl _,ao.refl _,s1,fun _ h _=>h,g2⟩
def b5(lo:Int)(n:Nat):List Nf:=(Pm n).map fun(i:Nat)=>.int (lo+(i:Int))
theorem vh{lo:Int}{n:Nat}{F0:Hp}:Bg K σ (Il lo n) (b5 lo n) [] F0:=by
  intro F H s0 s1 hh
  unfold b5
  rw [NN,List.length_range]
  refine⟨fun i hi=>hi,fun i hi=>hi,fun i x v H' hx hy=>?_⟩
  obtain⟨rfl,rfl⟩:=hy
  rw [NT] at hx
  obtain⟨k,h1,rfl⟩:=M8 hx
  have h2:=(M9 h1).2
  simp at h2
  subst h2
  exact⟨F,ao.refl _,ao.refl _,s1,fun _ h _=>h,bS.mpr rfl⟩
end
inductive IF (K:Ng) (own:iz) (σ0:L2.St) (F1:Hp) (P:En→Prop) (G:L2.St→Hp→Hp→En→Prop) (σ:L2.St) (H:Hp):Prop
  | mk {F:Hp} {e:En} (R:aW K F H σ e) (kp:keeps own e) (hσ:∀p∈own,σ[p.1]?=σ0[p.1]?) (sF:ao F1 F) (hf:P e) (q:G σ F H e):IF K own σ0 F1 P G σ H
section
variable{X:Cx}{K:Ng}{tg a b:Nh}{es:List Nh}{fa:FE}{fs:FA}{pos p tp:Pos}{k0:Nat}
def jX(fa:FE):FI:=fun e=>(fa e).bind fun p=>(FV p.2 p.1).map fun s=>(s.2.1,s.2.2,p.2)
theorem eY(hK:X.K=K)(h:PE X a (fE K fa)):PI X tg a (fI K (jX fa)):=((zQ (tg:=tg) hK h).or (Ck (tg:=tg) hK h)).mono fun σ H R hh=>by
  obtain⟨F,e,items,own,e',R0,hf,q⟩:=hh
  unfold jX at hf
  obtain⟨⟨r,e1⟩,h1,hf⟩:=M7 hf
  obtain⟨⟨b,xs,ow⟩,h2,hf⟩:=M8 hf
  cases hf
  cases b with
  | true=>
    refine .inl ⟨F,e,r,e1,R0,h1,fun F1 H1 v X1 R1 A1=>?_⟩
    obtain⟨F2,p,R2,s2,f2,rfl,sc,kp⟩:=wZ R1 A1 h2
    obtain⟨vs,_,c⟩:=sc.at (ao.refl _) R2.sm (R2.held kp) fun _ h=>h
    exact⟨p,rfl,⟨vs,c⟩,q _ F2 H1 (X1.frz s2 f2) R2 kp (xJ sc)⟩
  | false=>
    refine .inr ⟨F,e,r,e1,R0,h1,fun F1 H1 v X1 R1 A1=>?_⟩
    obtain⟨F2,p,R2,s2,f2,rfl,sc,kp⟩:=wZ R1 A1 h2
    obtain⟨vs,_,c⟩:=sc.at (ao.refl _) R2.sm (R2.held kp) fun _ h=>h
    exact⟨p,rfl,⟨vs,c⟩,q _ F2 H1 (X1.frz s2 f2) R2 kp (y6 sc)⟩
def Al(j:Int):Bool:=decide (-1000000≤j)&&decide (j≤1000000)
theorem Am{j:Int}(h:Al j=true): -1000000≤j∧j≤1000000:=by
  unfold Al at h
  rw [Ol,decide_eq_true_iff,decide_eq_true_iff] at h
  exact h
def cZ(fs:FA):FI:=fun e=>(fs e).bind fun p=>match p.1 with
  | [r]=>(cC r).bind fun j=>if Al j=true then some (b5 0 j.toNat,[],p.2) else none
  | _=>none
theorem dq(hg:Gl X "range")(hm:X.mg "range"=none)(ha:PA X [a] (fA K fs))(hs:Nq [a] X.env=[(false,Nt a X.env)]):PI X tg (.Call (.Name "range" p) [a] [] pos) (fI K (cZ fs)):=(xX hg hm ha hs).mono fun σ H R hh=>by
  obtain⟨F,e,items,own,e',R0,hf,q⟩:=hh
  unfold cZ at hf
  obtain⟨⟨rs,e1⟩,h1,hf⟩:=M7 hf
  match rs,h1,hf with
  | [r],h1,hf=>
  obtain⟨j,h2,hf⟩:=M7 hf
  split at hf
  case isFalse=>cases hf
  case isTrue hj=>
  cases hf
  refine⟨F,e,_,e1,R0,h1,fun F1 H1 vs X1 R1 A1=>?_⟩
  obtain⟨v,rfl,A2⟩:=sN A1
  have:=Am hj
  exact⟨j,by rw [cT A2 h2],by lia,by lia,q _ F1 H1 X1 R1 (fun _ h=>by cases h) vh⟩
open Classical in
noncomputable def jW(own:iz)(g:FG)(f:FS):List Nf→FS
  | [],e=>some (.nx e)
  | x::r,e=>(g x e).bind fun e1=>(f e1).bind fun fl=>match fl with
    | .nx e2=>if keeps own e2 then jW own g f r e2 else none
    | .ct e2=>if keeps own e2 then jW own g f r e2 else none
    | .bk e2=>some (.nx e2)
    | .rt v e2=>some (.rt v e2)
noncomputable def gT(W:List Nat)(fi:FI)(g:FG)(f:FS):FS:=fun e=>(fi e).bind fun p=>if (p.2.1.all fun q=> !W.contains q.1)=true then jW p.2.1 g f p.1 p.2.2 else none
theorem kn{W1 W2:List Nat}{iter:Nh}{body:List Nm}{fi:FI}{g:FG}{f:FS}(hp:PassesOwn (Nr X.prog X.w) X.A X.env X.xe)(hc:X.calm=true)(hi:PI X tg iter (fI K fi))(hg:PG X tg (fG K g W1))(hb:jh X body (fS K f W2))(hs:∀x,PR iter X.env x=pure x):
    PS X (.For tg iter body [] pos) (fS K (gT (W1++W2) fi g f) (W1++W2)):=(zV hp hc hi hg hb hs).mono fun D σ0 H0 hh=>by
  obtain⟨F0,e0,fl,R0,hf,q0⟩:=hh
  unfold gT at hf
  obtain⟨⟨items,own,e1⟩,h1,hf⟩:=M7 hf
  dsimp only at hf
  split at hf
  case isFalse=>cases hf
  case isTrue hW=>
  have hW':∀p∈own,p.1∉W1++W2:=fun p hp=>by
    have:=NV.mp hW p hp
    simpa using this
  refine⟨F0,e0,items,own,e1,R0,h1,fun J F1 H1 X1 R1 kp ok=>?_⟩
  have s1:∀j,j∈W1→j∈W1++W2:=fun j h=>Ov.mpr (.inl h)
  have s2:∀j,j∈W2→j∈W1++W2:=fun j h=>Ov.mpr (.inr h)
  have q1:oC K (W1++W2) σ0 F1 H1 e1 D fl:=q0.later (W1:=[]) X1.s (fun j h=>by cases h) fun j h=>h
  refine⟨fun i m σ H=>m=items.length - i∧i≤items.length∧IF K own σ0 F1 (fun e=>jW own g f (items.drop i) e=some fl) (fun σ F H e=>oC K (W1++W2) σ F H e D fl) σ H,
    ⟨items.length,by simp,OS _,.mk R1 kp (fun _ _=>rfl) (ao.refl _) hf q1⟩,?_⟩
  rintro i m σ H ⟨rfl,hi,⟨R,kp,hσ,sF,hf,q⟩⟩
  rename_i F e
  have held:ym K σ0 F H own:=fun p hp=>by
    obtain⟨l,vs,g1,g2⟩:=R.held kp p hp
    exact⟨l,vs,by rw [←hσ p hp];exact g1,g2⟩
  obtain⟨go,stop,yld⟩:=ok F H sF R.sm held
  by_cases hlt:i < items.length
  · have hd:items.drop i=items[i]::items.drop (i+1):=Rg hlt
    rw [hd] at hf
    unfold jW at hf
    obtain⟨e2,h2,hf⟩:=M7 hf
    obtain⟨fl2,h3,hf⟩:=M7 hf
    refine .inr ⟨go i hlt,IF K own σ0 F1 (fun e=>jW own g f (items.drop (i+1)) e=some fl) (fun σ F H e=>oC K (W1++W2) σ F H e D fl),
      fun σ' H' r=>⟨items.length - (i+1),by lia,rfl,hlt,r⟩,fun x H' hy=>?_⟩
    obtain⟨F',sH,sF',sm',fz,hx⟩:=yld i items[i] x H' (OF hlt) hy
    obtain⟨R',X'⟩:=R.step sH sF' sm' fz
    refine⟨F',e,items[i],e2,R',hx,h2,fun σ2 x2 R2=>⟨F',e2,fl2,R2,h3,?_⟩⟩
    have q2:oC K (W1++W2) σ2 F' H' e2 D fl:=(q.later (W1:=[]) (W2:=W1++W2) X'.s (fun j h=>by cases h) fun j h=>h).later x2 s1 fun j h=>h
    have w2:∀p∈own,σ2[p.1]?=σ0[p.1]?:=fun p hp=>(x2.wr p.1 fun z=>hW' p hp (s1 _ z)).trans (hσ p hp)
    cases fl2 with
    | nx e3=>
      intro F3 H3 σ3 x3 R3
      dsimp only at hf
      split at hf
      case isFalse=>cases hf
      case isTrue kp3=>
      exact .mk R3 kp3 (fun p hp=>(x3.wr p.1 fun z=>hW' p hp (s2 _ z)).trans (w2 p hp)) (sF.trans (sF'.trans x3.sf)) hf (q2.later x3 s2 fun j h=>h)
    | ct e3=>
      intro F3 H3 σ3 x3 R3
      dsimp only at hf
      split at hf
      case isFalse=>cases hf
      case isTrue kp3=>
      exact .mk R3 kp3 (fun p hp=>(x3.wr p.1 fun z=>hW' p hp (s2 _ z)).trans (w2 p hp)) (sF.trans (sF'.trans x3.sf)) hf (q2.later x3 s2 fun j h=>h)
    | bk e3=>
      cases hf
      exact fun F3 H3 σ3 x3 R3=>q2 F3 H3 σ3 (x3.mono s2) R3
    | rt r e3=>
      cases hf
      exact fun F3 H3 σ3 v x3 R3 A3=>q2 F3 H3 σ3 v (x3.mono s2) R3 A3
  · have hd:items.drop i=[]:=Rh (by lia)
    rw [hd] at hf
    cases hf
    exact .inl ⟨stop i (by lia),q F H σ dc.refl R⟩
end
def wB:Option (Option Sv)→Bool
  | some (some (.l _))=>true
  | _=>false
theorem BB{s:Option (Option Sv)}:wB s=true↔ ∃xs,s=some (some (.l xs)):=by
  unfold wB
  split
  · simp
  · rename_i h
    constructor
    · intro z;cases z
    · rintro⟨xs,rfl⟩;exact absurd rfl (h xs)
def pS(pos:Nat→Option Nat)(ei e:En):En:=e.mapIdx fun i s=>match s with
  | some (.l xs)=>match pos i with
    | some k=>(ei[k]?).join
    | none=>some (.l xs)
  | s=>s
theorem bI{pos:Nat→Option Nat}{ei e:En}{i:Nat}:(pS pos ei e)[i]?=(e[i]?).map fun s=>match s with
  | some (.l xs)=>match pos i with
    | some k=>(ei[k]?).join
    | none=>some (.l xs)
  | s=>s:=by unfold pS;rw [List.getElem?_mapIdx]
structure s_ (σ:L2.St) (e:En) (σi:L2.St) (ei:En) (pos:Nat→Option Nat):Prop where
  a:∀(i k:Nat) (xs:List Nf),e[i]?=some (some (.l xs))→pos i=some k→σi[k]?=σ[i]?
  b:∀(k:Nat) (ys:List Nf),ei[k]?=some (some (.l ys))→∃(i:Nat) (xs:List Nf),e[i]?=some (some (.l xs))∧pos i=some k∧σi[k]?=σ[i]?
section
variable{K:Ng}{σ σi σi':L2.St}{F H F' H':Hp}{e ei ei':En}{pos:Nat→Option Nat}
def Gp(e:En):Prop:=∀(i:Nat) (xss:List (List Nf)),e[i]?≠some (some (.n xss))
theorem s_.own(s:s_ σ e σi ei pos)(hn:Gp ei){a:xM}{H H':Hp}(h:bz σi ei H a):∃(i k:Nat) (xs:List Nf),e[i]?=some (some (.l xs))∧pos i=some k∧σ[i]?=some (some (.ref a)):=by
  obtain⟨k,⟨ys,h1,h2⟩ | ⟨xss,_,_,h1,_⟩⟩:=h
  · obtain⟨i,xs,g1,g2,g3⟩:=s.b k ys h1
    exact⟨i,k,xs,g1,g2,by rw [←g3];exact h2⟩
  · exact absurd h1 (hn k xss)
theorem uG(R:aW K F H σ e)(s:s_ σ e σi ei pos)(hnn:Gp ei)(sf:ao F F')(dom:∀a,H' a=none→H a=none)(fr:∀a vs,F a=none→H a=some (.lst vs)→¬bz σi ei H a→F' a=none)(lst:∀a vs,H a=some (.lst vs)→∃vs',H' a=some (.lst vs'))
    (tmp:∀a o,H a=some o→¬bz σi ei H a→H' a=some o)(fd:∀a (m:DI),F a=none→H a=some m.1→¬bz σi ei H a→F' a=none)(R':aW K F' H' σi' ei')(hσ:∀(i k:Nat) (xs:List Nf),e[i]?=some (some (.l xs))→pos i=some k→σi'[k]?=σi[k]?)(hsh:∀(i k:Nat) (xs:List Nf),e[i]?=some (some (.l xs))→pos i=some k→∃ys,ei'[k]?=some (some (.l ys))):
    aW K F' H' σ (pS pos ei' e)∧cW σ F H e F' H' (pS pos ei' e)∧∀a,bz σ (pS pos ei' e) H' a→bz σ e H a:=by
  have shp:∀i:Nat,(∃xs,(pS pos ei' e)[i]?=some (some (.l xs)))↔ (∃xs,e[i]?=some (some (.l xs))):=by
    intro i
    rw [bI]
    match h:e[i]? with
    | none=>simp
    | some none=>simp
    | some (some (.d x))=>simp
    | some (some (.n x))=>simp
    | some (some (.l xs))=>
      simp only [Ou]
      constructor
      · intro _;exact⟨xs,rfl⟩
      · intro _
        match hp:pos i with
        | none=>exact⟨xs,rfl⟩
        | some k=>
          obtain⟨ys,g⟩:=hsh i k xs h hp
          exact⟨ys,by show some ((ei'[k]?).join)=_;rw [g];rfl⟩
  have oth:∀(i:Nat) (s:Sv),(∀xs,s≠.l xs)→((pS pos ei' e)[i]?=some (some s)↔ e[i]?=some (some s)):=by
    intro i s hs
    constructor
    · intro h
      rw [bI] at h
      match h1:e[i]?,h with
      | some (some (.d y)),h=>exact h
      | some (some (.n y)),h=>exact h
      | some (some (.l ys)),h=>
        simp only [Ou,Pv] at h
        match hp:pos i,h with
        | none,h=>cases h;exact absurd rfl (hs _)
        | some k,h=>
          obtain⟨zs,g⟩:=hsh i k ys h1 hp
          change (ei'[k]?).join=_ at h
          rw [g] at h;cases h;exact absurd rfl (hs _)
      | some none,h=>simp at h
      | none,h=>simp at h
    · intro h
      rw [bI,h]
      cases s with
      | d y=>rfl
      | n y=>rfl
      | l y=>exact absurd rfl (hs y)
  have out:∀i a,Fp σ e H i a→(∀k xs,e[i]?=some (some (.l xs))→pos i≠some k)→¬bz σi ei H a:=by
    intro i a hi hp z
    obtain⟨j,k,ws,d1,d2,d3⟩:=s.own hnn (H':=H') z
    have:i=j:=R.fp i j a hi (.inl ⟨ws,d1,d3⟩)
    subst this
    exact hp k ws d1 d2
  have keep:∀i a o,Fp σ e H i a→(∀k xs,e[i]?=some (some (.l xs))→pos i≠some k)→H a=some o→H' a=some o:=fun i a o hi hp ha=>tmp a o ha (out i a hi hp)
  have sown:∀a,bz σi ei H a→bz σ e H a:=fun a z=>by
    obtain⟨j,k,ws,d1,d2,d3⟩:=s.own hnn (H':=H') z
    exact⟨j,.inl ⟨ws,d1,d3⟩⟩
  have fs:∀i a,Fp σ (pS pos ei' e) H' i a↔ Fp σ e H i a:=by
    intro i a
    have key:∀xss l,e[i]?=some (some (.n xss))→σ[i]?=some (some (.ref l))→H' l=H l:=fun xss l h1 h2=>by
      obtain⟨l',bs,g1,g2,g3,_⟩:=R.nst i xss h1
      rw [h2] at g1;cases g1
      rw [g3]
      exact keep i l _ (.inr ⟨xss,l,bs,h1,h2,g3,.inl rfl⟩) (fun k xs z=>by rw [h1] at z;cases z) g3
    constructor
    · rintro(⟨xs,h1,h2⟩ | ⟨xss,l,bs,h1,h2,h3,h4⟩)
      · obtain⟨ys,h⟩:=(shp i).mp ⟨xs,h1⟩
        exact .inl ⟨ys,h,h2⟩
      · have h1':=(oth i (.n xss) (fun _ z=>nomatch z)).mp h1
        exact .inr ⟨xss,l,bs,h1',h2,by rw [←key xss l h1' h2];exact h3,h4⟩
    · rintro(⟨xs,h1,h2⟩ | ⟨xss,l,bs,h1,h2,h3,h4⟩)
      · obtain⟨ys,h⟩:=(shp i).mpr ⟨xs,h1⟩
        exact .inl ⟨ys,h,h2⟩
      · exact .inr ⟨xss,l,bs,(oth i (.n xss) (fun _ z=>nomatch z)).mpr h1,h2,by rw [key xss l h1 h2];exact h3,h4⟩
  refine⟨⟨R'.sm,?_,fun i x h=>?_,fun i xs h=>?_,fun i xss h=>?_,fun i j a h1 h2=>R.fp i j a ((fs i a).mp h1) ((fs j a).mp h2)⟩,⟨sf,dom,fun a vs h1 h2 n=>fr a vs h1 h2 fun z=>n (sown a z),lst,fun a o h n=>tmp a o h fun z=>n (sown a z),shp,fun a ⟨i,h⟩=>.inl ⟨i,(fs i a).mp h⟩,fun a m h1 h2 n=>fd a m h1 h2 fun z=>n (sown a z)⟩,fun a ⟨i,h⟩=>⟨i,(fs i a).mp h⟩⟩
  · unfold pS;rw [List.length_mapIdx];exact R.len
  · obtain⟨v,g1,g2⟩:=R.dat i x ((oth i (.d x) (fun _ z=>nomatch z)).mp h)
    exact⟨v,g1,DA.mono sf g2⟩
  · obtain⟨ys,h1⟩:=(shp i).mp ⟨xs,h⟩
    obtain⟨l,vs,g1,g2,g3,g4⟩:=R.own i ys h1
    rw [bI,h1] at h
    simp only [Ou,Pv] at h
    match hp:pos i,h with
    | none,h=>
      cases h
      have np:∀k xs,e[i]?=some (some (Sv.l xs))→pos i≠some k:=fun k xs _ z=>by rw [hp] at z;cases z
      have fi:Fp σ e H i l:=.inl ⟨_,h1,g1⟩
      exact⟨l,vs,g1,fr l vs g2 g3 (out i l fi np),keep i l _ fi np g3,g4.mono sf⟩
    | some k,h=>
      obtain⟨zs,c1⟩:=hsh i k ys h1 hp
      change (ei'[k]?).join=_ at h
      rw [c1] at h;cases h
      obtain⟨l',vs',d1,d2,d3,d4⟩:=R'.own k _ c1
      rw [hσ i k ys h1 hp,s.a i k ys h1 hp] at d1
      exact⟨l',vs',d1,d2,d3,d4⟩
  · have h1:=(oth i (.n xss) (fun _ z=>nomatch z)).mp h
    obtain⟨l,bs,g1,g2,g3,g4,g5,g6,g7⟩:=R.nst i xss h1
    have np:∀k xs,e[i]?=some (some (Sv.l xs))→pos i≠some k:=fun k xs z=>by rw [h1] at z;cases z
    have fi:Fp σ e H i l:=.inr ⟨xss,l,bs,h1,g1,g3,.inl rfl⟩
    refine⟨l,bs,g1,fr l _ g2 g3 (out i l fi np),keep i l _ fi np g3,g4,g5,g6,fun k b ys q1 q2=>?_⟩
    obtain⟨c1,us,c2,c3⟩:=g7 k b ys q1 q2
    have fb:Fp σ e H i b:=.inr ⟨xss,l,bs,h1,g1,g3,.inr (Nb q1)⟩
    exact⟨fr b _ c1 c2 (out i b fb np),us,keep i b _ fb np c2,c3.mono sf⟩
end
def ci(e:En):List Rv→Option (List Sv)
  | []=>some []
  | .d x::r=>(ci e r).map (.d x::·)
  | .l xs::r=>(ci e r).map (.d (.list xs)::·)
  | .s i::r=>match e[i]? with
    | some (some (.l xs))=>(ci e r).map (.l xs::·)
    | _=>none
def aL:List Rv→List Nat
  | []=>[]
  | .s i::r=>i::aL r
  | .d _::r=>aL r
  | .l _::r=>aL r
def km(rs:List Rv)(i:Nat):Option Nat:=rs.findIdx? fun r=>match r with
  | .s j=>j==i
  | _=>false
def noS:Rv→Prop
  | .s _=>False
  | _=>True
abbrev FM:=List Sv→Option (Rv × List Sv)
def dw(K:Ng)(n:Nat)(m:FM):Sp:=fun vs H Q _=>vs.length=n∧∃F as r as',aW K F H (vs.map some) (as.map some)∧Gp (as.map some)∧m as=some (r,as')∧noS r∧
  ∀F' H' v,cW (vs.map some) F H (as.map some) F' H' (as'.map some)→aW K F' H' (vs.map some) (as'.map some)→ce K (vs.map some) H F' H' (as'.map some) r v→Q v H'
def bf:List Rv→List Sv→Bool
  | [],[]=>true
  | .s _::r,.l _::s=>bf r s
  | .d _::r,_::s=>bf r s
  | .l _::r,_::s=>bf r s
  | _,_=>false
def sr:Rv→Bool
  | .s _=>false
  | _=>true
def dC:List Rv→List Sv→En→En
  | .s i::r,.l ys::s,e=>dC r s (e.set i (some (.l ys)))
  | .d _::r,_::s,e=>dC r s e
  | .l _::r,_::s,e=>dC r s e
  | _,_,e=>e
def dr(n:Nat)(m:FM)(fs:FA):FE:=fun e=>(fs e).bind fun p=>(ci p.2 p.1).bind fun as=>(m as).bind fun z=>if p.1.length=n∧(aL p.1).Nodup∧bf p.1 z.2=true∧sr z.1=true then some (z.1,dC p.1 z.2 p.2) else none
theorem iU:∀{rs:List Rv} {as:List Sv},bf rs as=true→∀(k i:Nat),rs[k]?=some (.s i)→∃ys,as[k]?=some (.l ys)
  | [],[],_,k,i,h=>by simp at h
  | .s j::r,.l ys::s,h,k,i,hk=>by
    cases k with
    | zero=>exact⟨ys,rfl⟩
    | succ k=>simpa using iU (rs:=r) (as:=s) (by simpa [bf] using h) k i (by simpa using hk)
  | .d x::r,y::s,h,k,i,hk=>by
    cases k with
    | zero=>simp at hk
    | succ k=>simpa using iU (rs:=r) (as:=s) (by simpa [bf] using h) k i (by simpa using hk)
  | .l x::r,y::s,h,k,i,hk=>by
    cases k with
    | zero=>simp at hk
    | succ k=>simpa using iU (rs:=r) (as:=s) (by simpa [bf] using h) k i (by simpa using hk)
  | .s _::_,.d _::_,h,_,_,_=>by simp [bf] at h
  | .s _::_,[],h,_,_,_=>by simp [bf] at h
  | .d _::_,[],h,_,_,_=>by simp [bf] at h
  | .l _::_,[],h,_,_,_=>by simp [bf] at h
theorem me{r0:Rv}{rs:List Rv}{i:Nat}:km (r0::rs) i=if (match r0 with | .s j=>j==i | _=>false)=true then some 0 else(km rs i).map (· +1):=by
  unfold km;rw [List.findIdx?_cons]
theorem mf{rs:List Rv}{i k:Nat}(h:km rs i=some k):rs[k]?=some (.s i):=by
  unfold km at h
  rw [Rx] at h
  obtain⟨hk,h1,_⟩:=h
  rw [OF hk]
  split at h1
  · rename_i heq
    rw [heq]
    have:=eq_of_beq h1
    rw [this]
  · cases h1
theorem fD:∀{rs:List Rv} {i:Nat},i∈aL rs↔ Rv.s i∈rs
  | [],i=>by simp [aL]
  | .s j::r,i=>by simp [aL,fD (rs:=r)]
  | .d x::r,i=>by simp [aL,fD (rs:=r)]
  | .l x::r,i=>by simp [aL,fD (rs:=r)]
theorem gw:∀{rs:List Rv} {i k j:Nat},(aL rs).Nodup→rs[k]?=some (.s i)→rs[j]?=some (.s i)→k=j
  | [],i,k,j,_,h,_=>by simp at h
  | .s m::r,i,k,j,hn,h1,h2=>by
    simp only [aL,Pp] at hn
    cases k with
    | zero=>
      simp at h1;subst h1
      cases j with
      | zero=>rfl
      | succ j=>exact absurd (fD.mpr (Nb (by simpa using h2))) hn.1
    | succ k=>
      cases j with
      | zero=>
        simp at h2;subst h2
        exact absurd (fD.mpr (Nb (by simpa using h1))) hn.1
      | succ j=>
        have:=gw (rs:=r) (i:=i) (k:=k) (j:=j) hn.2 (by simpa using h1) (by simpa using h2)
        lia
  | .d x::r,i,k,j,hn,h1,h2=>by
    cases k with
    | zero=>simp at h1
    | succ k=>
      cases j with
      | zero=>simp at h2
      | succ j=>
        have:=gw (rs:=r) (i:=i) (k:=k) (j:=j) (by simpa [aL] using hn) (by simpa using h1) (by simpa using h2)
        lia
  | .l x::r,i,k,j,hn,h1,h2=>by
    cases k with
    | zero=>simp at h1
    | succ k=>
      cases j with
      | zero=>simp at h2
      | succ j=>
        have:=gw (rs:=r) (i:=i) (k:=k) (j:=j) (by simpa [aL] using hn) (by simpa using h1) (by simpa using h2)
        lia
theorem zS{rs:List Rv}{i:Nat}(h:i∉aL rs):km rs i=none:=by
  unfold km
  rw [QK]
  intro r hr
  cases r with
  | d x=>rfl
  | l x=>rfl
  | s j=>
    have:j≠i:=fun z=>h (by rw [←z];exact fD.mpr hr)
    simpa using this
theorem nF:∀{rs:List Rv} {as:List Sv} {e:En},(aL rs).Nodup→bf rs as=true→(∀j∈aL rs,∃xs,e[j]?=some (some (.l xs)))→dC rs as e=pS (km rs) (as.map some) e
  | [],[],e,_,_,_=>by
    refine Pj fun i=>?_
    rw [bI]
    have:km [] i=none:=rfl
    rw [this]
    simp only [dC]
    match e[i]? with
    | none=>rfl
    | some none=>rfl
    | some (some (.d x))=>rfl
    | some (some (.l x))=>rfl
    | some (some (.n x))=>rfl
  | .d x::r,y::s,e,hn,hl,hs=>by
    rw [show dC (.d x::r) (y::s) e=dC r s e from rfl,nF (by simpa [aL] using hn) (by simpa [bf] using hl) (fun j hj=>hs j (by simpa [aL] using hj))]
    refine Pj fun i=>?_
    rw [bI,bI,me]
    cases km r i<;>simp
  | .l x::r,y::s,e,hn,hl,hs=>by
    rw [show dC (.l x::r) (y::s) e=dC r s e from rfl,nF (by simpa [aL] using hn) (by simpa [bf] using hl) (fun j hj=>hs j (by simpa [aL] using hj))]
    refine Pj fun i=>?_
    rw [bI,bI,me]
    cases km r i<;>simp
  | .s k::r,.l ys::s,e,hn,hl,hs=>by
    simp only [aL,Pp] at hn
    obtain⟨xs,hk⟩:=hs k (by simp [aL])
    have hlt:k < e.length:=(M9 hk).1
    rw [show dC (.s k::r) (.l ys::s) e=dC r s (e.set k (some (.l ys))) from rfl,nF hn.2 (by simpa [bf] using hl) (fun j hj=>by
      have z:k≠j:=fun z=>hn.1 (by rw [z];exact hj)
      rw [NC z]
      exact hs j (by simp [aL,hj]))]
    refine Pj fun i=>?_
    rw [bI,bI,me]
    by_cases z:k=i
    · subst z
      rw [Os hlt,hk,zS hn.1]
      simp
    · rw [NC z]
      have:((match (Rv.s k) with | .s j=>j==i | _=>false)=true)=False:=by simp [z]
      simp only [this,if_false]
      cases km r i<;>simp
  | .s _::_,.d _::_,_,_,h,_=>by simp [bf] at h
  | .s _::_,.n _::_,_,_,h,_=>by simp [bf] at h
  | .s _::_,[],_,_,h,_=>by simp [bf] at h
  | .d _::_,[],_,_,h,_=>by simp [bf] at h
  | .l _::_,[],_,_,h,_=>by simp [bf] at h
  | [],_::_,_,_,h,_=>by simp [bf] at h
theorem e8{e:En}:∀{rs:List Rv} {as:List Sv},ci e rs=some as→∀j∈aL rs,∃xs,e[j]?=some (some (.l xs))
  | [],_,_,j,h=>by simp [aL] at h
  | .d x::rs,as,q,j,h=>by
    obtain⟨as',q1,rfl⟩:=M8 q
    exact e8 q1 j (by simpa [aL] using h)
  | .l x::rs,as,q,j,h=>by
    obtain⟨as',q1,rfl⟩:=M8 q
    exact e8 q1 j (by simpa [aL] using h)
  | .s k::rs,as,q,j,h=>by
    unfold ci at q
    match he:e[k]?,q with
    | some (some (.l xs)),q=>
      obtain⟨as',q1,rfl⟩:=M8 q
      simp only [aL,OJ] at h
      rcases h with rfl | h
      · exact⟨xs,he⟩
      · exact e8 q1 j h
theorem kG{e:En}:∀{rs:List Rv} {as:List Sv} {k i:Nat},ci e rs=some as→rs[k]?=some (.s i)→∃xs,as[k]?=some (.l xs)
  | [],_,k,i,_,h=>by simp at h
  | .d x::rs,as,k,i,q,h=>by
    obtain⟨as',q1,rfl⟩:=M8 q
    cases k with
    | zero=>simp at h
    | succ k=>simpa using kG (k:=k) (i:=i) q1 (by simpa using h)
  | .l x::rs,as,k,i,q,h=>by
    obtain⟨as',q1,rfl⟩:=M8 q
    cases k with
    | zero=>simp at h
    | succ k=>simpa using kG (k:=k) (i:=i) q1 (by simpa using h)
  | .s j::rs,as,k,i,q,h=>by
    unfold ci at q
    match he:e[j]?,q with
    | some (some (.l xs)),q=>
      obtain⟨as',q1,rfl⟩:=M8 q
      cases k with
      | zero=>exact⟨xs,rfl⟩
      | succ k=>simpa using kG (k:=k) (i:=i) q1 (by simpa using h)
section
variable{X:Cx}{K:Ng}{σ:L2.St}{H0 H:Hp}{e:En}
theorem nB:∀{rs:List Rv} {vs:List V} {as:List Sv} {F:Hp},aW K F H σ e→dB K σ H0 F H e rs vs→ci e rs=some as→
    ∃F',aW K F' H σ e∧ao F F'∧(∀a,F a=none→H0 a≠none→F' a=none)∧vs.length=as.length∧rs.length=as.length∧
      (∀(k:Nat) (x:Nf),as[k]?=some (.d x)→∃v,vs[k]?=some v∧DA K F' x v)∧∀(k:Nat) (xs:List Nf),as[k]?=some (.l xs)→∃i,rs[k]?=some (.s i)∧e[i]?=some (some (.l xs))∧∃v,vs[k]?=some v∧σ[i]?=some (some v)
  | [],vs,as,F,R,h,q=>by
    cases q
    have h':vs=[]:=h
    subst h'
    exact⟨F,R,ao.refl _,fun _ h _=>h,rfl,rfl,fun k x h=>by simp at h,fun k x h=>by simp at h⟩
  | .d x::rs,_,as,F,R,h,q=>by
    obtain⟨v,ws,rfl,h1,h2⟩:=h
    obtain⟨as',q1,rfl⟩:=M8 q
    obtain⟨F',R',s',f',l1,l2,d',o'⟩:=nB R h2 q1
    refine⟨F',R',s',f',by simp [l1],by simp [l2],fun k y hk=>?_,fun k ys hk=>?_⟩
    · cases k with
      | zero=>simp at hk;subst hk;exact⟨v,rfl,DA.mono s' h1⟩
      | succ k=>simpa using d' k y (by simpa using hk)
    · cases k with
      | zero=>simp at hk
      | succ k=>simpa using o' k ys (by simpa using hk)
  | .l xs::rs,_,as,F,R,h,q=>by
    obtain⟨v,ws,rfl,h1,h2⟩:=h
    obtain⟨as',q1,rfl⟩:=M8 q
    obtain⟨F',R',s',f',l1,l2,d',o'⟩:=nB R h2 q1
    have key:∃F2,aW K F2 H σ e∧ao F' F2∧(∀a,F' a=none→H0 a≠none→F2 a=none)∧DA K F2 (.list xs) v:=by
      obtain⟨l,us,rfl,g1,g2,g3,g4,g5⟩:=h1
      cases hl:F' l with
      | none=>
        have h1':ce K σ H0 F' H e (.l xs) (.ref l):=⟨l,us,rfl,g1,hl,g3,aQ.mono s' g4,g5⟩
        obtain⟨F2,R2,s2,d2,f2⟩:=h1'.frozen R'
        exact⟨F2,R2,s2,f2,d2⟩
      | some o=>
        have:=R'.sm _ _ hl
        rw [g3] at this;cases this
        exact⟨F',R',ao.refl _,fun _ h _=>h,eV.mpr ⟨l,us,rfl,.inl (.inl hl),aQ.mono s' g4⟩⟩
    obtain⟨F2,R2,s2,f2,d2⟩:=key
    refine⟨F2,R2,s'.trans s2,fun a ha hn=>f2 a (f' a ha hn) hn,by simp [l1],by simp [l2],fun k y hk=>?_,fun k ys hk=>?_⟩
    · cases k with
      | zero=>simp at hk;subst hk;exact⟨v,rfl,d2⟩
      | succ k=>
        obtain⟨u,c1,c2⟩:=d' k y (by simpa using hk)
        exact⟨u,by simpa using c1,DA.mono s2 c2⟩
    · cases k with
      | zero=>simp at hk
      | succ k=>simpa using o' k ys (by simpa using hk)
  | .s i::rs,_,as,F,R,h,q=>by
    obtain⟨v,ws,rfl,h1,h2⟩:=h
    unfold ci at q
    match he:e[i]?,q with
    | some (some (.l xs)),q=>
      obtain⟨as',q1,rfl⟩:=M8 q
      obtain⟨F',R',s',f',l1,l2,d',o'⟩:=nB R h2 q1
      refine⟨F',R',s',f',by simp [l1],by simp [l2],fun k y hk=>?_,fun k ys hk=>?_⟩
      · cases k with
        | zero=>simp at hk
        | succ k=>simpa using d' k y (by simpa using hk)
      · cases k with
        | zero=>simp at hk;subst hk;exact⟨i,rfl,he,v,rfl,h1.1⟩
        | succ k=>simpa using o' k ys (by simpa using hk)
theorem ff{α:Type}{l:List α}{k:Nat}{x:α}:(l.map some)[k]?=some (some x)↔ l[k]?=some x:=by
  rw [NT]
  cases l[k]?<;>simp
theorem ce.noS{σ':L2.St}{e':En}{F H:Hp}{r:Rv}{v:V}(h:ce K σ' H0 F H e' r v)(n:L2.noS r)(ho:∀a,bz σ e H a→H0 a≠none):ce K σ H0 F H e r v:=by
  cases r with
  | d x=>exact h
  | l xs=>
    obtain⟨l,vs,e1,h1,h2,h3,h4,_⟩:=h
    exact⟨l,vs,e1,h1,h2,h3,h4,fun z=>ho l z h1⟩
  | s i=>exact absurd n (by simp [L2.noS])
theorem iB:∀{rs:List Rv} {as:List Sv},ci e rs=some as→Gp (as.map some)
  | [],_,q=>by cases q;intro i xss h;simp at h
  | .d x::rs,as,q=>by
    obtain⟨as',q1,rfl⟩:=M8 q
    have ih:=iB q1
    intro i xss h
    cases i with
    | zero=>simp at h
    | succ i=>exact ih i xss (by simpa using h)
  | .l x::rs,as,q=>by
    obtain⟨as',q1,rfl⟩:=M8 q
    have ih:=iB q1
    intro i xss h
    cases i with
    | zero=>simp at h
    | succ i=>exact ih i xss (by simpa using h)
  | .s j::rs,as,q=>by
    unfold ci at q
    match he:e[j]?,q with
    | some (some (.l xs)),q=>
      obtain⟨as',q1,rfl⟩:=M8 q
      have ih:=iB q1
      intro i xss h
      cases i with
      | zero=>simp at h
      | succ i=>exact ih i xss (by simpa using h)
theorem Gc{n:Nat}{m:FM}{fs:FA}{Q:VK}{E:XK}(h:fE K (dr n m fs) σ H Q):qX (dw K n m) [] E (fA K fs) σ H Q:=by
  obtain⟨F,e,z,e',R,hf,q⟩:=h
  unfold dr at hf
  obtain⟨⟨rs,e1⟩,h1,hf⟩:=M7 hf
  obtain⟨as,h2,hf⟩:=M7 hf
  obtain⟨⟨r,as'⟩,h3,hf⟩:=M7 hf
  split at hf
  case isFalse=>cases hf
  case isTrue hc=>
  obtain⟨c1,c2,c3,c4⟩:=hc
  cases hf
  refine⟨F,e,rs,e1,R,h1,fun F1 H1 vs X1 R1 A1=>?_⟩
  obtain⟨F2,R2,s2,f2,l1,l2,d2,o2⟩:=nB R1 A1 h2
  have X2:=X1.frz s2 f2
  rw [OP]
  have hn:L2.noS r:=by
    cases r with
    | d x=>trivial
    | l x=>trivial
    | s i=>cases c4
  have nN:=iB h2
  have RA:aW K F2 H1 (vs.map some) (as.map some):=by
    refine⟨R2.sm,by simp [l1],fun k x hk=>?_,fun k xs hk=>?_,fun k xss hk=>absurd hk (nN k xss),fun k j l f1 f2=>?_⟩
    · obtain⟨v,g1,g2⟩:=d2 k x (ff.mp hk)
      exact⟨v,ff.mpr g1,g2⟩
    · obtain⟨i,g1,g2,v,g3,g4⟩:=o2 k xs (ff.mp hk)
      obtain⟨l,us,k1,k2,k3,k4⟩:=R2.own i xs g2
      rw [g4] at k1;cases k1
      exact⟨l,us,ff.mpr g3,k2,k3,k4⟩
    · obtain⟨xs,g1,g3⟩:=f1.resolve_right fun⟨xss,_,_,z,_⟩=>nN k xss z
      obtain⟨ys,g2,g4⟩:=f2.resolve_right fun⟨xss,_,_,z,_⟩=>nN j xss z
      obtain⟨i1,a1,a2,v1,a3,a4⟩:=o2 k xs (ff.mp g1)
      obtain⟨i2,b1,b2,v2,b3,b4⟩:=o2 j ys (ff.mp g2)
      have e1:=ff.mp g3
      have e2:=ff.mp g4
      rw [a3] at e1;cases e1
      rw [b3] at e2;cases e2
      have:i1=i2:=R2.inj i1 i2 xs ys l a2 b2 a4 b4
      subst this
      exact gw c2 a1 b1
  have sub:s_ σ e1 (vs.map some) (as.map some) (km rs):=by
    refine⟨fun i k xs g1 g2=>?_,fun k ys g1=>?_⟩
    · have g3:=mf g2
      obtain⟨zs,hs⟩:=kG h2 g3
      obtain⟨i',a1,a2,v,a3,a4⟩:=o2 k zs hs
      rw [g3] at a1;cases a1
      rw [ff.mpr a3,a4]
    · obtain⟨i,a1,a2,v,a3,a4⟩:=o2 k ys (ff.mp g1)
      refine⟨i,ys,a2,?_,by rw [ff.mpr a3,a4]⟩
      cases hp:km rs i with
      | none=>
        unfold km at hp
        rw [QK] at hp
        have:=hp _ (Nb a1)
        simp at this
      | some j=>rw [gw c2 (mf hp) a1]
  refine⟨by rw [l1,←l2];exact c1,F2,as,r,as',RA,nN,h3,hn,fun F' H' v X3 R3 A3=>?_⟩
  obtain⟨R4,X4,o4⟩:=uG R2 sub nN X3.sf X3.dom X3.fr X3.lst X3.tmp X3.fd R3 (fun _ _ _ _ _=>rfl) fun i k xs g1 g2=>by
    obtain⟨ys,g3⟩:=iU c3 k i (mf g2)
    exact⟨ys,ff.mpr g3⟩
  have hb:=nF (e:=e1) c2 c3 (e8 h2)
  rw [←hb] at R4 X4 o4
  exact q F' H' v (X2.trans X4) R4 ((A3.noS hn fun a z=>R2.ownH a (o4 a z)).weak X2.dom)
theorem bA{x:Str}{st:Nm}{f:xM}{fd:Nx}{ps:List Str}{k n:Nat}{m:FM}{a:Nh}{es:List Nh}{fs:FA}{p pos:Pos}(h:dA X.K X.mg x st f fd ps)(G:aG X.prog X.w X.K X.mg X.base cc k f fd ps (dw K n m))(hr:bK k X.A)(ha:PA X (a::es) (fA K fs))
    (hg:Gl X x)(hdb:(x==("__debug__":Str))=false)(he:Nq (a::es) X.env=(false,Nt a X.env)::Nq es X.env)(hpl:(ND pos (Nq es X.env)).any (·.1)=false):
    PE X (.Call (.Name x p) (a::es) [] pos) (fE K (dr n m fs)):=(Fc h G hr ha hg hdb he hpl).mono fun _ _ _ h=>Gc h
def sY:List Sv→En→Option (List Sv)
  | [],_=>some []
  | .d x::r,e=>(sY r e.tail).map (.d x::·)
  | .l _::r,e=>match e.head? with
    | some (some (.l ys))=>(sY r e.tail).map (.l ys::·)
    | _=>none
  | .n _::_,_=>none
def rK(n:Nat)(e:En):Rv→Option Rv
  | .s i=>if n≤i then match e[i]? with
      | some (some (.l xs))=>some (.l xs)
      | _=>none
    else none
  | r=>some r
def jZ(W:List Nat)(as:List Sv):Bool:=W.all fun j=>match as[j]? with
  | some (.l _)=>false
  | _=>true
def ix(n k:Nat)(W:List Nat)(f:FS):FM:=fun as=>if as.length=n∧jZ W as=true then(f (as.map some++Nv k none)).bind fun fl=>match fl with
    | .rt r e=>(rK n e r).bind fun r'=>(sY as e).map fun as'=>(r',as')
    | .nx e=>(sY as e).map fun as'=>(.d .none,as')
    | _=>none
  else none
theorem nP:∀{as as':List Sv} {e:En},sY as e=some as'→as'.length=as.length∧(∀(j:Nat) (x:Nf),as'[j]?=some (.d x)↔ as[j]?=some (.d x))∧(∀(j:Nat) (ys:List Nf),as'[j]?=some (.l ys)→(∃xs,as[j]?=some (.l xs))∧e[j]?=some (some (.l ys)))∧∀(j:Nat) (xs:List Nf),as[j]?=some (.l xs)→∃ys,as'[j]?=some (.l ys)
  | [],_,e,h=>by cases h;simp
  | .d x::r,_,e,h=>by
    obtain⟨s,h1,rfl⟩:=M8 h
    obtain⟨g1,g2,g3,g4⟩:=nP h1
    refine⟨by simp [g1],fun j y=>?_,fun j ys hj=>?_,fun j xs hj=>?_⟩
    · cases j with
      | zero=>simp
      | succ j=>simpa using g2 j y
    · cases j with
      | zero=>simp at hj
      | succ j=>
        obtain⟨c1,c2⟩:=g3 j ys (by simpa using hj)
        refine⟨by simpa using c1,?_⟩
        rw [List.getElem?_tail] at c2
        exact c2
    · cases j with
      | zero=>simp at hj
      | succ j=>simpa using g4 j xs (by simpa using hj)
  | .l xs::r,_,e,h=>by
    unfold sY at h
    match he:e.head?,h with
    | some (some (.l ys)),h=>
      obtain⟨s,h1,rfl⟩:=M8 h
      obtain⟨g1,g2,g3,g4⟩:=nP h1
      refine⟨by simp [g1],fun j y=>?_,fun j zs hj=>?_,fun j zs hj=>?_⟩
      · cases j with
        | zero=>simp
        | succ j=>simpa using g2 j y
      · cases j with
        | zero=>
          simp at hj;subst hj
          exact⟨⟨xs,rfl⟩,by rw [List.head?_eq_getElem?] at he;exact he⟩
        | succ j=>
          obtain⟨c1,c2⟩:=g3 j zs (by simpa using hj)
          refine⟨by simpa using c1,?_⟩
          rw [List.getElem?_tail] at c2
          exact c2
      · cases j with
        | zero=>exact⟨ys,rfl⟩
        | succ j=>simpa using g4 j zs (by simpa using hj)
  | .n x::r,_,e,h=>by simp [sY] at h
end
theorem ez{α:Type}{l:List (Option α)}{k i:Nat}{x:α}(h:(l++Nv k none)[i]?=some (some x)):l[i]?=some (some x):=by
  rw [List.getElem?_append] at h
  split at h
  · exact h
  · rw [QV] at h
    split at h<;>simp at h
theorem eL{α:Type}{l:List (Option α)}{k i:Nat}{x:α}(h:l[i]?=some (some x)):(l++Nv k none)[i]?=some (some x):=by
  have hi:i < l.length:=(M9 h).1
  rw [OV hi];exact h
section
variable{K:Ng}{F H:Hp}{σ:L2.St}{e:En}{k:Nat}
theorem rL{i:Nat}{a:xM}:Fp (σ++Nv k none) (e++Nv k none) H i a↔ Fp σ e H i a:=by
  constructor
  · rintro(⟨xs,h1,h2⟩ | ⟨xss,l,bs,h1,h2,h3⟩)
    · exact .inl ⟨xs,ez h1,ez h2⟩
    · exact .inr ⟨xss,l,bs,ez h1,ez h2,h3⟩
  · rintro(⟨xs,h1,h2⟩ | ⟨xss,l,bs,h1,h2,h3⟩)
    · exact .inl ⟨xs,eL h1,eL h2⟩
    · exact .inr ⟨xss,l,bs,eL h1,eL h2,h3⟩
theorem fg{a:xM}:bz (σ++Nv k none) (e++Nv k none) H a↔ bz σ e H a:=⟨fun⟨i,h⟩=>⟨i,rL.mp h⟩,fun⟨i,h⟩=>⟨i,rL.mpr h⟩⟩
theorem aW.pad(R:aW K F H σ e):aW K F H (σ++Nv k none) (e++Nv k none):=by
  refine⟨R.sm,by simp [R.len],fun i x h=>?_,fun i xs h=>?_,fun i xss h=>?_,fun i j a h1 h2=>R.fp i j a (rL.mp h1) (rL.mp h2)⟩
  · obtain⟨v,g1,g2⟩:=R.dat i x (ez h)
    exact⟨v,eL g1,g2⟩
  · obtain⟨l,vs,g1,g2⟩:=R.own i xs (ez h)
    exact⟨l,vs,eL g1,g2⟩
  · obtain⟨l,bs,g1,g2⟩:=R.nst i xss (ez h)
    exact⟨l,bs,eL g1,g2⟩
end
theorem sS:∀{as as':List Sv} {e:En},sY as e=some as'→Gp (as'.map some)
  | [],_,e,h=>by cases h;intro i xss z;simp at z
  | .d x::r,_,e,h=>by
    obtain⟨s,h1,rfl⟩:=M8 h
    have ih:=sS h1
    intro i xss z
    cases i with
    | zero=>simp at z
    | succ i=>exact ih i xss (by simpa using z)
  | .l xs::r,_,e,h=>by
    unfold sY at h
    match he:e.head?,h with
    | some (some (.l ys)),h=>
      obtain⟨s,h1,rfl⟩:=M8 h
      have ih:=sS h1
      intro i xss z
      cases i with
      | zero=>simp at z
      | succ i=>exact ih i xss (by simpa using z)
  | .n x::r,_,e,h=>by simp [sY] at h
theorem uf{W:List Nat}{as:List Sv}(h:jZ W as=true){j:Nat}{xs:List Nf}(hj:as[j]?=some (.l xs)):j∉W:=fun z=>by
  unfold jZ at h
  have:=NV.mp h j z
  rw [hj] at this
  cases this
section
variable{P:Nl}{w:Nj}{K:Ng}{mg:Str→Option Kz}{base:Nk}
theorem dA.fn{x:Str}{st:Nm}{f:xM}{fd:Nx}{N ps:List Str}{k n k0:Nat}{W:List Nat}{fb:FS}(h:dA K mg x st f fd ps)(S:au N ps (ag st))(hn:ps.length=n)(hN:N.length=n+k0)
    (hb:∀(cdv:Kz) (A:Nn) (outer:List Env) (s:Nc) (H:Hp) (E:XK),bK k (A.deeper (envOfC x (ag st) s.heap.objs.size f cdv))→jh (tK cc P w K mg base N x (ag st) f cdv A outer s H E).nox (cj st) (fS K fb W)):
    aG P w K mg base cc (k+1) f fd ps (dw K n (ix n k0 W fb)):=by
  refine h.F.ok S (fun vs H Q E q=>?_) fun cdv A outer s H vs Q E hr hsp=>⟨_,hb cdv A outer s H E hr,?_⟩
  · rw [hn];exact q.1
  · obtain⟨hl,F,as,r,as',R,nN,hm,nr,q⟩:=hsp
    unfold ix at hm
    split at hm
    case isFalse=>cases hm
    case isTrue hc=>
    obtain⟨la,nl⟩:=hc
    obtain⟨fl,h1,hm⟩:=M7 hm
    have hst:gM N vs=vs.map some++Nv k0 none:=by unfold gM;rw [hN,hl];congr 2;lia
    rw [hst]
    have key:∀{as':List Sv} {e':En},sY as e'=some as'→∀F' H' σ',dc W (vs.map some++Nv k0 none) F H (as.map some++Nv k0 none) σ' F' H' e'→aW K F' H' σ' e'→
        cW (vs.map some) F H (as.map some) F' H' (as'.map some)∧aW K F' H' (vs.map some) (as'.map some)∧∀a,bz (vs.map some) (as'.map some) H' a→bz (vs.map some) (as.map some) H a:=by
      intro as' e' hu F' H' σ' X' R'
      obtain⟨u1,u2,u3,u4⟩:=nP hu
      have uN:=sS hu
      have ow:∀a,bz (vs.map some) (as'.map some) H' a→bz (vs.map some) (as.map some) H a:=by
        rintro a ⟨j,⟨ys,c1,c2⟩ | ⟨xss,_,_,z,_⟩⟩
        · obtain⟨⟨xs,c3⟩,_⟩:=u3 j ys (ff.mp c1)
          exact⟨j,.inl ⟨xs,ff.mpr c3,c2⟩⟩
        · exact absurd z (uN j xss)
      have sg:∀(j:Nat) (xs:List Nf),as[j]?=some (.l xs)→σ'[j]?=(vs.map some)[j]?:=fun j xs hj=>by
        rw [X'.wr j (uf nl hj)]
        have hj2:j < (vs.map some).length:=by rw [NN,hl,←la];exact(M9 hj).1
        rw [OV hj2]
      refine⟨⟨X'.sf,X'.dom,fun a vs h1 h2 hn=>X'.fr a vs h1 h2 fun z=>hn (fg.mp z),X'.lst,fun a o ha hn=>X'.tmp a o ha fun z=>hn (fg.mp z),fun j=>?_,fun a z=>.inl (ow a z),fun a m h1 h2 hn=>X'.fd a m h1 h2 fun z=>hn (fg.mp z)⟩,⟨R'.sm,?_,fun j y hj=>?_,fun j ys hj=>?_,fun j xss hj=>absurd hj (uN j xss),fun j i l f1 f2=>?_⟩,ow⟩
      · constructor
        · rintro⟨ys,hj⟩
          obtain⟨⟨xs,c⟩,_⟩:=u3 j ys (ff.mp hj)
          exact⟨xs,ff.mpr c⟩
        · rintro⟨xs,hj⟩
          obtain⟨ys,c⟩:=u4 j xs (ff.mp hj)
          exact⟨ys,ff.mpr c⟩
      · simp [u1,hl,la]
      · obtain⟨v,c1,c2⟩:=R.dat j y (ff.mpr ((u2 j y).mp (ff.mp hj)))
        exact⟨v,c1,DA.mono X'.sf c2⟩
      · obtain⟨⟨xs,c1⟩,c2⟩:=u3 j ys (ff.mp hj)
        obtain⟨l,us,d1,d2⟩:=R'.own j ys c2
        exact⟨l,us,by rw [←sg j xs c1];exact d1,d2⟩
      · obtain⟨xs,g1,g3⟩:=f1.resolve_right fun⟨xss,_,_,z,_⟩=>uN j xss z
        obtain⟨ys,g2,g4⟩:=f2.resolve_right fun⟨xss,_,_,z,_⟩=>uN i xss z
        obtain⟨⟨zs,c1⟩,c2⟩:=u3 j xs (ff.mp g1)
        obtain⟨⟨ws,c3⟩,c4⟩:=u3 i ys (ff.mp g2)
        exact R'.inj j i xs ys l c2 c4 (by rw [sg j zs c1];exact g3) (by rw [sg i ws c3];exact g4)
    refine⟨F,as.map some++Nv k0 none,fl,R.pad,h1,?_⟩
    cases fl with
    | bk e'=>cases hm
    | ct e'=>cases hm
    | nx e'=>
      obtain⟨as2,h2,hm⟩:=M8 hm
      cases hm
      intro F' H' σ' X' R'
      obtain⟨X2,R2,_⟩:=key h2 F' H' σ' X' R'
      exact q F' H' .non X2 R2 ((eu (K:=K) (F:=F')).mpr rfl)
    | rt r0 e'=>
      obtain⟨r1,h2,hm⟩:=M7 hm
      obtain⟨as2,h3,hm⟩:=M8 hm
      cases hm
      intro F' H' σ' v X' R' A'
      obtain⟨X2,R2,ow2⟩:=key h3 F' H' σ' X' R'
      have noo:∀l,H l=none→¬bz (vs.map some) (as'.map some) H' l:=fun l hl z=>R.ownH l (ow2 l z) hl
      refine q F' H' v X2 R2 ?_
      cases r0 with
      | d y=>cases h2;exact A'
      | l ys=>
        cases h2
        obtain⟨l,us,d0,d1,d2,d3,d4,_⟩:=A'
        exact⟨l,us,d0,d1,d2,d3,d4,noo l d1⟩
      | s i=>
        simp only [rK] at h2
        split at h2
        case isFalse=>cases h2
        case isTrue hi=>
        obtain⟨a1,xs,a2⟩:=A'
        rw [a2] at h2
        cases h2
        obtain⟨l,us,d1,d2,d3,d4⟩:=R'.own i _ a2
        rw [a1] at d1;cases d1
        suffices hl0:H l=none from⟨l,us,rfl,hl0,d2,d3,d4,noo l hl0⟩
        rcases X'.own l ⟨i,.inl ⟨_,a2,a1⟩⟩ with z | z
        · obtain⟨j,zf⟩:=fg.mp z
          obtain⟨ys,z1,z2⟩:=zf.resolve_right fun⟨xss,_,_,z,_⟩=>nN j xss z
          have z1':=ff.mp z1
          obtain⟨u1,u2,u3,u4⟩:=nP h3
          obtain⟨ws,w1⟩:=u4 j ys z1'
          obtain⟨_,w2⟩:=u3 j ws w1
          have hj2:j < vs.length:=by rw [hl,←la];exact(M9 z1').1
          have e3:σ'[j]?=some (some (.ref l)):=by
            rw [X'.wr j (uf nl z1'),OV (by simpa using hj2)]
            exact z2
          have:=R'.inj i j _ ws l a2 w2 a1 e3
          lia
        · exact z
end
def G2:Option Sv→Option Sv
  | some (.n _)=>none
  | s=>s
def rP(cp:List (Nat × Str))(nT:Nat)(e:En):En:=cp.map (fun p=>G2 (e[p.1]?).join)++Nv nT none
def md(cp:List (Nat × Str))(i:Nat):Option Nat:=cp.findIdx? fun p=>p.1==i
def eH(g:FG)(ft:FT)(fe:FE):List Nf→En→List Nf→Option (List Nf × En)
  | [],e,acc=>some (acc,e)
  | x::r,e,acc=>(g x e).bind fun e1=>(ft e1).bind fun b=>if b.1=true then(fe b.2).bind fun v=>(gO v.1).bind fun d=>if acc.length < 1000000 then eH g ft fe r v.2 (acc++[d]) else none else eH g ft fe r b.2 acc
def iE(cp:List (Nat × Str))(ei e:En):Bool:=cp.all fun p=> !wB e[p.1]? || wB ei[(md cp p.1).getD 0]?
def b_(cp:List (Nat × Str))(nT:Nat)(fi:FI)(g:FG)(ft:FT)(fe:FE):FE:=fun e=>(fi e).bind fun p=>if (p.2.1.all fun q=> !(cp.any fun c=>c.1==q.1))=true then(eH g ft fe p.1 (rP cp nT p.2.2) []).bind fun z=>if iE cp z.2 p.2.2=true then some (.l z.1,pS (md cp) z.2 p.2.2) else none else none
section
variable{K:Ng}{F H:Hp}{σ:L2.St}{e:En}{cp:List (Nat × Str)}{nT:Nat}
theorem em{i k:Nat}(h:md cp i=some k):∃s,cp[k]?=some (i,s):=by
  unfold md at h
  rw [Rx] at h
  obtain⟨hk,h1,_⟩:=h
  refine⟨cp[k].2,?_⟩
  rw [OF hk]
  have:=eq_of_beq h1
  rw [←this]
theorem jM{k:Nat}{x:Sv}(h:(rP cp nT e)[k]?=some (some x)):∃i s,cp[k]?=some (i,s)∧e[i]?=some (some x):=by
  unfold rP at h
  have h:=ez h
  rw [NT] at h
  obtain⟨p,h1,h2⟩:=M8 h
  refine⟨p.1,p.2,h1,?_⟩
  cases q:e[p.1]? with
  | none=>rw [q] at h2;cases h2
  | some y=>
    rw [q] at h2
    match y,h2 with
    | some (.d z),h2=>exact congrArg some h2
    | some (.l z),h2=>exact congrArg some h2
    | some (.n z),h2=>cases h2
    | none,h2=>cases h2
theorem k_:Gp (rP cp nT e):=by
  intro k xss h
  unfold rP at h
  have h:=ez h
  rw [NT] at h
  obtain⟨p,h1,h2⟩:=M8 h
  match (e[p.1]?).join,h2 with
  | some (.d z),h2=>cases h2
  | some (.l z),h2=>cases h2
  | some (.n z),h2=>cases h2
  | none,h2=>cases h2
theorem nM{k i:Nat}{s:Str}{v:V}(h:cp[k]?=some (i,s))(hv:σ[i]?=some (some v)):(i6 cp nT σ)[k]?=some (some v):=by
  unfold i6
  refine eL ?_
  rw [NT,h]
  simp [hv]
theorem pM{k i:Nat}{s:Str}{v:V}(h:cp[k]?=some (i,s))(hv:(i6 cp nT σ)[k]?=some (some v)):σ[i]?=some (some v):=by
  unfold i6 at hv
  have hv:=ez hv
  rw [NT,h] at hv
  simp only [Ou,Pv] at hv
  cases q:σ[i]? with
  | none=>rw [q] at hv;cases hv
  | some y=>rw [q] at hv;exact congrArg some hv
theorem rF:∀{cp:List (Nat × Str)} {k j i:Nat} {s t:Str},(cp.map (·.1)).Nodup→cp[k]?=some (i,s)→cp[j]?=some (i,t)→k=j
  | [],k,j,i,s,t,_,h,_=>by simp at h
  | p::r,k,j,i,s,t,hn,h1,h2=>by
    simp only [NP,Pp] at hn
    cases k with
    | zero=>
      simp at h1;subst h1
      cases j with
      | zero=>rfl
      | succ j=>
        have hm:(i,t)∈r:=Nb (i:=j) (by simpa using h2)
        exact absurd (PZ.mpr ⟨(i,t),hm,rfl⟩) hn.1
    | succ k=>
      cases j with
      | zero=>
        simp at h2;subst h2
        have hm:(i,s)∈r:=Nb (i:=k) (by simpa using h1)
        exact absurd (PZ.mpr ⟨(i,s),hm,rfl⟩) hn.1
      | succ j=>
        have:=rF (cp:=r) (k:=k) (j:=j) hn.2 (by simpa using h1) (by simpa using h2)
        lia
theorem aW.inn(R:aW K F H σ e)(hn:(cp.map (·.1)).Nodup):aW K F H (i6 cp nT σ) (rP cp nT e)∧s_ σ e (i6 cp nT σ) (rP cp nT e) (md cp):=by
  refine⟨⟨R.sm,by simp [i6,rP],fun k x h=>?_,fun k xs h=>?_,fun k xss h=>absurd h (k_ k xss),fun k j l f1 f2=>?_⟩,⟨fun i k xs h1 h2=>?_,fun k ys h=>?_⟩⟩
  · obtain⟨i,s,h1,h2⟩:=jM h
    obtain⟨v,g1,g2⟩:=R.dat i x h2
    exact⟨v,nM h1 g1,g2⟩
  · obtain⟨i,s,h1,h2⟩:=jM h
    obtain⟨l,vs,g1,g2⟩:=R.own i xs h2
    exact⟨l,vs,nM h1 g1,g2⟩
  · obtain⟨xs,h1,h3⟩:=f1.resolve_right fun⟨xss,_,_,z,_⟩=>k_ k xss z
    obtain⟨ys,h2,h4⟩:=f2.resolve_right fun⟨xss,_,_,z,_⟩=>k_ j xss z
    obtain⟨i,s,a1,a2⟩:=jM h1
    obtain⟨i',s',b1,b2⟩:=jM h2
    have:i=i':=R.inj i i' xs ys l a2 b2 (pM a1 h3) (pM b1 h4)
    subst this
    exact rF hn a1 b1
  · obtain⟨s,g⟩:=em h2
    obtain⟨l,vs,g1,_⟩:=R.own i xs h1
    rw [g1];exact nM g g1
  · obtain⟨i,s,h1,h2⟩:=jM h
    obtain⟨l,vs,g1,_⟩:=R.own i ys h2
    refine⟨i,ys,h2,?_,by rw [g1];exact nM h1 g1⟩
    cases hp:md cp i with
    | none=>
      unfold md at hp
      rw [QK] at hp
      have:=hp _ (Nb h1)
      simp at this
    | some j=>
      obtain⟨t,g⟩:=em hp
      rw [rF hn g h1]
theorem aW.putT(R:aW K F H σ e){l:xM}{ws:List V}(h1:F l=none)(h2:¬bz σ e H l):aW K F (bw H l (.lst ws)) σ e∧∀a,bz σ e (bw H l (.lst ws)) a↔ bz σ e H a:=
  R.keep (ao.refl F) (fun b o q=>by
    have z:b≠l:=fun z=>by rw [z,h1] at q;cases q
    rw [av z];exact R.sm b o q) (fun a ⟨i,h⟩=>(R.fpAt h).1) fun a o ha q=>by
      have z:a≠l:=fun z=>h2 (by rw [←z];exact ha)
      rw [av z];exact q
theorem dc.putT{W:List Nat}{σ':L2.St}{F' H':Hp}{e':En}(x:dc W σ F H e σ' F' H' e'){l:xM}{o:HO}(h:H l=none)(ho:∀a,bz σ' e' (bw H' l o) a↔ bz σ' e' H' a):dc W σ F H e σ' F' (bw H' l o) e':=by
  refine⟨x.sf,fun a q=>?_,x.fr,fun a vs q=>?_,fun a u q n=>?_,fun a q=>x.own a ((ho a).mp q),x.wr,x.fd⟩
  · by_cases z:a=l
    · rw [z];exact h
    · rw [av z] at q;exact x.dom a q
  · have z:a≠l:=fun z=>by rw [z,h] at q;cases q
    rw [av z];exact x.lst a vs q
  · have z:a≠l:=fun z=>by rw [z,h] at q;cases q
    rw [av z];exact x.tmp a u q n
inductive CI (K:Ng) (W:List Nat) (σ0:L2.St) (F1 H1:Hp) (e0:En) (l:xM) (P:Hp→En→List Nf→Prop) (σ':L2.St) (H':Hp):Prop
  | mk {F':Hp} {ei:En} {acc:List Nf} {vs:List V} (R:aW K F' H' σ' ei) (X:dc W σ0 F1 H1 e0 σ' F' H' ei) (fl:F' l=none) (no:¬bz σ' ei H' l) (hl:H' l=some (.lst vs)) (da:aQ K F' acc vs) (hc:P F' ei acc):CI K W σ0 F1 H1 e0 l P σ' H'
theorem AW{Q:VK}{fi:FI}{g:FG}{W:List Nat}{ft:FT}{fe:FE}(hn:(cp.map (·.1)).Nodup)(hW:∀j∈W,cp.length≤j)(h:fE K (b_ cp nT fi g ft fe) σ H Q):AH cp nT (fI K fi) (fG K g W) (fT K ft) (fE K fe) σ H Q:=by
  obtain⟨F0,e0,z,e',R0,hf,q⟩:=h
  unfold b_ at hf
  obtain⟨⟨items,own,e1⟩,h1,hf⟩:=M7 hf
  dsimp only at hf
  split at hf
  case isFalse=>cases hf
  case isTrue hO=>
  obtain⟨⟨out,eo⟩,h2,hf⟩:=M7 hf
  dsimp only at hf
  split at hf
  case isFalse=>cases hf
  case isTrue hB=>
  cases hf
  refine⟨⟨F0,e0,items,own,e1,R0,h1,fun J F1 H1 X1 R1 kp ok=>?_⟩⟩
  intro l hl
  obtain⟨Ri,sub⟩:=R1.inn (nT:=nT) hn
  have hFl:F1 l=none:=R1.freeF hl
  let Iv:Nat→L2.St→Hp→Prop:=fun i=>CI K W (i6 cp nT σ) F1 H1 (rP cp nT e1) l fun _ ei acc=>eH g ft fe (items.drop i) ei acc=some (out,eo)
  have notown:∀p∈own,∀a,σ[p.1]?=some (some (.ref a))→¬bz (i6 cp nT σ) (rP cp nT e1) H1 a:=by
    rintro p hp a ha ⟨k,zf⟩
    obtain⟨xs,c1,c2⟩:=zf.resolve_right fun⟨xss,_,_,z,_⟩=>k_ k xss z
    obtain⟨i,s,d1,d2⟩:=jM c1
    have e2:=pM d1 c2
    have:p.1=i:=R1.inj p.1 i p.2 xs a (kp p hp) d2 ha e2
    have hh:=NV.mp hO p hp
    simp only [Bool.not_eq_true',List.any_eq_false,beq_iff_eq] at hh
    exact hh (i,s) (Nb d1) this.symm
  refine⟨fun i m σ' H'=>m=items.length - i∧i≤items.length∧Iv i σ' H',⟨items.length,by simp,OS _,.mk (Ri.putT hFl (fun z=>(Ri.ownH l z) hl)).1 (dc.refl.putT hl (Ri.putT hFl (fun z=>(Ri.ownH l z) hl)).2) hFl (fun z=>(Ri.ownH l (((Ri.putT hFl (fun z=>(Ri.ownH l z) hl)).2 l).mp z)) hl) ar aQ.nil h2⟩,?_⟩
  rintro i m σ' H' ⟨rfl,hi,⟨R',X',fl,no,hl',da,hc⟩⟩
  rename_i F' ei acc vs
  have held:ym K σ F' H' own:=fun p hp=>by
    obtain⟨a,us,c1,c2,c3,c4⟩:=R1.own p.1 p.2 (kp p hp)
    exact⟨a,us,c1,X'.tmp a _ c3 (notown p hp a c1),c4.mono X'.sf⟩
  obtain⟨go,stop,yld⟩:=ok F' H' X'.sf R'.sm held
  by_cases hlt:i < items.length
  · have hd:items.drop i=items[i]::items.drop (i+1):=Rg hlt
    rw [hd] at hc
    unfold eH at hc
    obtain⟨e2,c2,hc⟩:=M7 hc
    obtain⟨⟨b,e3⟩,c3,hc⟩:=M7 hc
    refine .inr ⟨go i hlt,Iv (i+1),fun σ2 H2 r=>⟨items.length - (i+1),by lia,rfl,hlt,r⟩,fun x H2 hy=>?_⟩
    obtain⟨F2,sH,sF2,sm2,fz,hx⟩:=yld i items[i] x H2 (OF hlt) hy
    obtain⟨R2,X2⟩:=R'.step sH sF2 sm2 fz
    refine⟨F2,ei,items[i],e2,R2,hx,c2,fun σ3 X3 R3=>⟨F2,e2,b,e3,R3,c3,fun F4 H4 X4 R4=>?_⟩⟩
    have hlH2:H2 l=some (.lst vs):=sH _ _ hl'
    have no2:¬bz σ' ei H2 l:=fun z=>by
      rcases X2.ow l z with z | z
      · exact no z
      · rw [hl'] at z;cases z
    have no3:¬bz σ3 e2 H2 l:=fun z=>by
      rcases X3.own l z with z | z
      · exact no2 z
      · rw [hlH2] at z;cases z
    have fl2:F2 l=none:=fz l fl (by rw [hl'];simp)
    have hlH4:H4 l=some (.lst vs):=X4.tmp l _ hlH2 no3
    have fl4:F4 l=none:=X4.fr l vs fl2 hlH2 no3
    have no4:¬bz σ3 e3 H4 l:=fun z=>by
      rcases X4.ow l z with z | z
      · exact no3 z
      · rw [hlH2] at z;cases z
    have E4:dc W (i6 cp nT σ) F1 H1 (rP cp nT e1) σ3 F4 H4 e3:=((X'.trans X2.s).trans X3).trans X4.s
    cases b with
    | false=>
      rw [if_neg (by simp)] at hc
      exact GU (.mk R4 E4 fl4 no4 hlH4 (da.mono (sF2.trans X4.sf)) hc)
    | true=>
      rw [if_pos rfl] at hc
      obtain⟨⟨r,e5⟩,c5,hc⟩:=M7 hc
      obtain⟨d,c6,hc⟩:=M7 hc
      split at hc
      case isFalse=>cases hc
      case isTrue hlen=>
      refine GV ⟨F4,e3,r,e5,R4,c5,fun F5 H5 v X5 R5 A5=>?_⟩
      have hlH5:H5 l=some (.lst vs):=X5.tmp l _ hlH4 no4
      have fl5:F5 l=none:=X5.fr l vs fl4 hlH4 no4
      have no5:¬bz σ3 e5 H5 l:=fun z=>by
        rcases X5.ow l z with z | z
        · exact no4 z
        · rw [hlH4] at z;cases z
      obtain⟨F6,R6,s6,d6,f6⟩:=dB.frozen R5 (rs:=[r]) (vs:=[v]) ⟨v,[],rfl,A5,rfl⟩ (xA c6)
      have fl6:F6 l=none:=f6 l fl5 (by rw [hlH4];simp)
      have X6:=X5.frz s6 f6
      have ll:=da.len
      have sl:Ny=16777216:=Oh
      have dv:DA K F6 d v:=by
        simp only [aQ] at d6
        obtain⟨v',r',e',hv,_⟩:=d6
        cases e';exact hv
      obtain⟨R7,o7⟩:=R6.putT (ws:=vs++[v]) fl6 no5
      exact⟨vs,hlH5,by lia,.mk R7 ((E4.trans X6.s).putT hl o7) fl6 (fun z=>no5 ((o7 l).mp z)) ar ((da.mono (sF2.trans (X4.sf.trans (X5.sf.trans s6)))).append (aQ.one dv)) hc⟩
  · have hd:items.drop i=[]:=Rh (by lia)
    rw [hd] at hc
    cases hc
    refine .inl ⟨stop i (by lia),?_⟩
    obtain⟨R9,X9,o9⟩:=uG R1 sub k_ X'.sf X'.dom X'.fr X'.lst X'.tmp X'.fd R' (fun i k xs g1 g2=>X'.wr k fun z=>by
      obtain⟨s,g⟩:=em g2
      have:=(M9 g).1
      have:=hW k z
      lia) fun i k xs g1 g2=>by
        obtain⟨s,g⟩:=em g2
        unfold iE at hB
        have hb:=NV.mp hB _ (Nb g)
        simp only [g1,g2,QF,wB,Bool.not_true,Bool.false_or] at hb
        exact BB.mp hb
    exact q F' H' (.ref l) (X1.trans X9) R9 ⟨l,vs,rfl,X1.dom l hl,fl,hl',da,fun z=>R1.ownH l (o9 l z) hl⟩
end
section
variable{X:Cx}{K:Ng}{a b:Nh}{es:List Nh}{fa fb:FE}{fs:FA}{pos p p2 p3:Pos}{lo hi:Option Nh}
def Ea:En→Rv→Option Rv:=fun _ x=>(cC x).map fun i=>.d (.int (-i))
theorem Ha:Gm K (rU fun i=>.int (-i)) Ea:=by
  intro σ H0 F H e x z v Q R A hg q
  obtain⟨i,h5,h4⟩:=M8 hg
  cases h4
  exact⟨i,cT A h5,q F H _ (cW.refl _ _ _ _) R pv⟩
theorem Ho(ha:PE X a (fE K fa)):PE X (.UnaryOp .USub a pos) (fE K (uS Ea fa)):=Hr Gb Ha ha
theorem cP(hK:X.K=K)(ha:PE X a (fE K fa))(hb:PE X b (fE K fb)):PE X (.BinOp a .Add b pos) (fE K (ay cw fa fb)):=pd (hK ▸ wD) C8 ha hb
theorem z6(ha:PE X a (fE K fa))(hb:PE X b (fE K fb)):PE X (.BinOp a .Sub b pos) (fE K (ay lY fa fb)):=pd E_ HK ha hb
theorem qO(hK:X.K=K)(ha:PE X a (fE K fa))(hb:PE X b (fE K fb)):PE X (.BinOp a .Mult b pos) (fE K (ay oI fa fb)):=pd (hK ▸ B8) G' ha hb
theorem jB(ha:PE X a (fE K fa))(hb:PE X b (fE K fb)):PE X (.BinOp a .FloorDiv b pos) (fE K (ay fP fa fb)):=pd zH D9 ha hb
theorem bo(ha:PE X a (fE K fa))(hb:PE X b (fE K fb)):PE X (.BinOp a .Mod b pos) (fE K (ay bv fa fb)):=pd B7 G_ ha hb
theorem Dy(ha:PE X a (fE K fa))(hb:PE X b (fE K fb)):PE X (.BinOp a .Pow b pos) (fE K (ay vf fa fb)):=pd E8 Hk ha hb
theorem ck(hK:X.K=K)(ha:PE X a (fE K fa))(hb:PE X b (fE K fb))(hs:nA b):PE X (.Subscript a b pos) (fE K (ay du fa fb)):=Hq (hK ▸ GX) GY ha hb hs
theorem nH{fl fh:FO}(hK:X.K=K)(he:PE X a (fE K fa))(hl:PO X lo (fO K fl))(hh:PO X hi (fO K fh)):PE X (.Subscript a (.Slice lo hi none p2) pos) (fE K (xh fa fl fh)):=by subst hK;exact Aa he hl hh
structure mX (X:Cx) (K:Ng) (op:CmpOp) (g:En→Rv→Rv→Option Rv):Prop where
  ex:∃r,gD X (Oc op) r∧gy K r g
theorem Bm:mX X K .Lt Di:=⟨_,Hf,Jn⟩
theorem yy:mX X K .Gt Dg:=⟨_,He,Jd⟩
theorem yx:mX X K .GtE Df:=⟨_,Hd,Jc⟩
theorem gz{k:Nat}(hK:X.K=K)(hr:bK k X.A):mX X K .Eq (bh false):=⟨_,hK ▸ EZ hr,Dd⟩
theorem yz{k:Nat}(hK:X.K=K)(hr:bK k X.A):mX X K .NotEq (bh true):=⟨_,hK ▸ E7 hr,Dd⟩
theorem xn{k:Nat}(hK:X.K=K)(hr:bK k X.A):mX X K .In (uU false):=⟨_,hK ▸ E1 hr,GN⟩
theorem Bn{k:Nat}(hK:X.K=K)(hr:bK k X.A):mX X K .NotIn (uU true):=⟨_,hK ▸ xW hr,GN⟩
theorem GG:mX X K .Is Gn:=⟨_,E2,Jh⟩
theorem rB:mX X K .IsNot kb:=⟨_,xU,BC⟩
theorem pb{op:CmpOp}{g:En→Rv→Rv→Option Rv}(h:mX X K op g)(ha:PE X a (fE K fa))(hb:PE X b (fE K fb))(hm:OK op b=false):PE X (.Compare a [op] [b] pos) (fE K (ay g fa fb)):=by
  obtain⟨r,h1,h2⟩:=h.ex;exact Fx h1 h2 ha hb hm
theorem aN{op:CmpOp}{g:En→Rv→Rv→Option Rv}(h:mX X K op g)(ha:PE X a (fE K fa))(hb:PE X b (fE K fb))(hm:OK op b=false):PT X (.Compare a [op] [b] pos) (fT K (az (ay g fa fb))):=by
  obtain⟨r,h1,h2⟩:=h.ex;exact Fz h1 h2 ha hb hm
structure j4 (X:Cx) (K:Ng) (x:Str) (g:En→List Rv→Option Rv):Prop where
  ex:(∃id r,cQ X (.builtin id) r∧cO K r g∧ON x=some (.builtin id))∨∃T r,cQ X (.type T) r∧cO K r g∧ON x=some (.type T)
theorem aV{x:Str}{g:En→List Rv→Option Rv}(h:j4 X K x g)(hg:Gl X x)(hm:X.mg x=none)(ha:PA X (a::es) (fA K fs))(hn:x≠"__name__")(hdb:(x==("__debug__":Str))=false)
    (he:Nq (a::es) X.env=(false,Nt a X.env)::Nq es X.env)(hpl:(ND pos (Nq es X.env)).any (·.1)=false):PE X (.Call (.Name x p) (a::es) [] pos) (fE K (aF g fs)):=by
  rcases h.ex with ⟨id,r,h1,h2,h3⟩ | ⟨T,r,h1,h2,h3⟩
  · exact z9 h1 h2 hg hm h3 ha hn hdb he hpl
  · exact xZ h1 h2 hg hm h3 ha hn hdb he hpl
theorem b_len(hK:X.K=K):j4 X K "len" (g1 gB):=⟨.inl ⟨_,_,hK ▸ rC,G1,PySem.boot_len⟩⟩
theorem b_abs:j4 X K "abs" (g1 xB):=⟨.inl ⟨_,_,yA,Gy,PyProof.Rows.boot_abs⟩⟩
theorem b_min(hc:X.calm=true):j4 X K "min" (g2 yQ):=⟨.inl ⟨_,_,xr hc,G9,PyProof.Rows.boot_min⟩⟩
theorem b_max(hc:X.calm=true):j4 X K "max" (g2 xF):=⟨.inl ⟨_,_,xq hc,G8,PyProof.Rows.boot_max⟩⟩
theorem b_int:j4 X K "int" (g1 ve):=⟨.inr ⟨_,_,xo,GO,PyProof.Rows.boot_int⟩⟩
theorem b_tuple(hK:X.K=K):j4 X K "tuple" (g1 dF):=⟨.inr ⟨_,_,hK ▸ p6,CU,PyProof.Rows.boot_tuple⟩⟩
theorem DV(hK:X.K=K):j4 X K "list" (g1 Dh):=⟨.inr ⟨_,_,hK ▸ rD,EG,PyProof.Rows.boot_list⟩⟩
theorem b_sum{k:Nat}(hK:X.K=K)(hr:bK k X.A):j4 X K "sum" (g1 (hE qB)):=⟨.inl ⟨_,_,hK ▸ yD hr,HM,PyProof.Rows.boot_sum⟩⟩
theorem b_all{k:Nat}(hK:X.K=K)(hr:bK k X.A):j4 X K "all" (g1 (hE tQ)):=⟨.inl ⟨_,_,yB hr hK,Gz,yw⟩⟩
theorem b_sorted(hK:X.K=K):j4 X K "sorted" (g1 ed):=⟨.inl ⟨_,_,hK ▸ va,CM,PyProof.Rows.boot_sorted⟩⟩
abbrev jc:FT:=fun e=>some (true,e)
theorem A0.mono{ifs:List Nh}{t t':TT}(h:A0 X ifs t)(m:∀σ H Q,t' σ H Q→t σ H Q):A0 X ifs t':=fun pins s σ H Q I q=>h pins s σ H Q I (m σ H Q q)
theorem nL:A0 X [] (fT K jc):=Cs.mono fun σ H Q h=>by
  obtain⟨F,e,b,e',R,hf,q⟩:=h
  cases hf
  exact q F H (cW.refl _ _ _ _) R
theorem iZ{c:Nh}{ft:FT}(h:PT X c (fT K ft)):A0 X [c] (fT K ft):=Ct h
variable{o:Nh}{fo:FE}{apos cpos:Pos}
theorem gj(hK:X.K=K)(ho:PE X o (fE K fo))(ha:PA X (a::es) (fA K fs))(hbase:Oy o "append" X.env (Nt o X.env)=Nt o X.env)
    (hfew:((ND cpos (Nq (a::es) X.env)).all (fun x=> !x.1)&&(OT cpos (OU [] X.env)).all (fun x=>x.1.isSome)
      &&decide ((a::es).length+([]:List Oi).length+(if ([]:List Oi).isEmpty then 0 else 1) < 30))=true)
    (hline:(apos.endLine==cpos.line)=true)(hs:Nq (a::es) X.env=(false,Nt a X.env)::Nq es X.env)(hplain:(ND cpos (Nq es X.env)).any (·.1)=false):
    PE X (.Call (.Attribute o "append" apos) (a::es) [] cpos) (fE K (cg bO fo fs)):=by
  subst hK;exact Dz PySem.F.slot_list_append PySem.F.type_list_append qL yp ho ha hbase hfew hline hs hplain
theorem Cw(hK:X.K=K)(ho:PE X o (fE K fo))(ha:PA X (a::es) (fA K fs))(hbase:Oy o "pop" X.env (Nt o X.env)=Nt o X.env)
    (hfew:((ND cpos (Nq (a::es) X.env)).all (fun x=> !x.1)&&(OT cpos (OU [] X.env)).all (fun x=>x.1.isSome)
      &&decide ((a::es).length+([]:List Oi).length+(if ([]:List Oi).isEmpty then 0 else 1) < 30))=true)
    (hline:(apos.endLine==cpos.line)=true)(hs:Nq (a::es) X.env=(false,Nt a X.env)::Nq es X.env)(hplain:(ND cpos (Nq es X.env)).any (·.1)=false):
    PE X (.Call (.Attribute o "pop" apos) (a::es) [] cpos) (fE K (cg gc fo fs)):=by
  subst hK;exact Dz Qz PySem.F.type_list_pop zp Cp ho ha hbase hfew hline hs hplain
theorem Dx(hK:X.K=K)(ho:PE X o (fE K fo))(hbase:Oy o "pop" X.env (Nt o X.env)=Nt o X.env)(hline:(apos.endLine==cpos.line)=true):
    PE X (.Call (.Attribute o "pop" apos) [] [] cpos) (fE K (cg m9 fo ah)):=by
  subst hK;exact z8 Qz PySem.F.type_list_pop EL Hj ho hbase hline
end
theorem vP{K:Ng}{H:Hp}{a:xM}{ns:List Int}{m:FM}{as':List Sv}{Q:VK}{E:XK}(hS:iu K H a (ns.map V.int))(hm:m [.d (.list (ns.map .int))]=some (.d (.bool true),as'))(q:∀H',Q (.bl true) H'):dw K 1 m [.ref a] H Q E:=by
  refine⟨rfl,H,[.d (.list (ns.map .int))],_,as',?_,?_,hm,trivial,fun F' H' v X' R' A'=>?_⟩
  · refine⟨ao.refl _,rfl,fun i x h=>?_,fun i xs h=>?_,fun i xss h=>?_,fun i j l f1 _=>?_⟩
    · match i,h with
      | 0,h=>
        simp at h;subst h
        exact⟨.ref a,rfl,eV.mpr ⟨a,_,rfl,hS,aQ.ints.mpr rfl⟩⟩
      | i+1,h=>simp at h
    · match i,h with
      | 0,h=>simp at h
      | i+1,h=>simp at h
    · match i,h with
      | 0,h=>simp at h
      | i+1,h=>simp at h
    · rcases f1 with ⟨_,h,_⟩ | ⟨_,_,_,h,_⟩
      · match i,h with
        | 0,h=>simp at h
        | i+1,h=>simp at h
      · match i,h with
        | 0,h=>simp at h
        | i+1,h=>simp at h
  · intro i xss h
    match i,h with
    | 0,h=>simp at h
    | i+1,h=>simp at h
  · rw [cX.mp (show DA K F' (.bool true) v from A')];exact q H'
section
variable{K:Ng}{σ:L2.St}{H0 F H F' H':Hp}{e e':En}
end
section
variable{X:Cx}{K:Ng}{a b:Nh}{es:List Nh}{fa fb:FE}{fs:FA}{pos p p2 p3 pos':Pos}{x:Str}{i:Nat}
def nC(k:Int):En→Option Int:=fun _=>some k
end
theorem lV{C:Int→Int→Bool}{f:Int→Int→Nf}{e:En}{i j:Int}(h:C i j=true):gI C f e (.d (.int i)) (.d (.int j))=some (.d (f i j)):=by simp [gI,cC,h]
theorem fN{e:En}{i j:Int}:cw e (.d (.int i)) (.d (.int j))=some (.d (.int (i+j))):=rfl
theorem dg{e:En}{i j:Int}:lY e (.d (.int i)) (.d (.int j))=some (.d (.int (i - j))):=rfl
theorem oJ{e:En}{i j:Int}(h:l9 i j=true):oI e (.d (.int i)) (.d (.int j))=some (.d (.int (i*j))):=by
  unfold oI A_ yR;rw [lV h];rfl
theorem zt{i j:Int}(h1: -(2 ^ 64) < i)(h2:i < 2 ^ 64):l9 i j=true:=by
  have:i7 i=true:=by unfold i7;rw [decide_eq_true h1,decide_eq_true h2];rfl
  unfold l9;rw [this];simp
theorem se{i j:Int}(h1: -(2 ^ 64) < j)(h2:j < 2 ^ 64):l9 i j=true:=by
  have:i7 j=true:=by unfold i7;rw [decide_eq_true h1,decide_eq_true h2];rfl
  unfold l9;rw [this];simp
theorem aX{e:En}{i j:Int}(h:0 < j):bv e (.d (.int i)) (.d (.int j))=some (.d (.int (i % j))):=by
  unfold bv;rw [lV (by simp;lia)]
  rw [Int.fmod_eq_emod_of_nonneg i (by lia)]
theorem fB{e:En}{i j:Int}(h:0 < j)(h2:Bt 8000 j):fP e (.d (.int i)) (.d (.int j))=some (.d (.int (i / j))):=by
  unfold fP;rw [lV (by simp [kP.mpr h2];lia)]
  rw [Int.fdiv_eq_ediv_of_nonneg i (by lia)]
theorem iL{e:En}{i j:Int}{neg:Bool}:bh neg e (.d (.int i)) (.d (.int j))=some (.d (.bool (if neg then !(i==j) else i==j))):=by
  unfold bh;simp [gE,NQ,Oa,Ot,OH]
theorem iS{e:En}{i j:Int}:Di e (.d (.int i)) (.d (.int j))=some (.d (.bool (decide (i < j)))):=rfl
theorem iQ{e:En}{i j:Int}:Kf e (.d (.int i)) (.d (.int j))=some (.d (.bool (decide (i≤j)))):=rfl
theorem iN{e:En}{i j:Int}:Dg e (.d (.int i)) (.d (.int j))=some (.d (.bool (decide (j < i)))):=rfl
theorem iM{e:En}{i j:Int}:Df e (.d (.int i)) (.d (.int j))=some (.d (.bool (decide (j≤i)))):=rfl
theorem fU{e:En}{i j:Int}:g2 yQ e [.d (.int i),.d (.int j)]=some (.d (.int (min i j))):=by
  show some (Rv.d (.int (if j < i then j else i)))=_
  congr 3
  split<;>lia
theorem fR{e:En}{i j:Int}:g2 xF e [.d (.int i),.d (.int j)]=some (.d (.int (max i j))):=by
  show some (Rv.d (.int (if j > i then j else i)))=_
  congr 3
  split<;>lia
theorem fV{e:En}{i:Int}:Ea e (.d (.int i))=some (.d (.int (-i))):=rfl
theorem d_{e:En}{b:Bool}:g1 ve e [.d (.bool b)]=some (.d (.int (if b then 1 else 0))):=rfl
theorem fM{e:En}{i:Int}:g1 xB e [.d (.int i)]=some (.d (.int i.natAbs)):=by
  show some (Rv.d (.int (if i < 0 then -i else i)))=_
  congr 3
  split<;>lia
theorem lU{j:Int}(h1:0 < j)(h2:j < 2 ^ 64):Bt 8000 j:=Bt.mono (m:=64) (by unfold Bt;lia) (by decide)
theorem iC{α:Type}{xs:List α}{i:Int}(h0:0≤i)(h:i < xs.length):atI xs i=xs[i.toNat]?:=by
  unfold atI GW
  rw [if_pos h0,if_pos h];rfl
theorem tR{e:En}{i:Nat}{xs:List Nf}{neg:Bool}(h:e[i]?=some (some (.l xs)))(hs:NQ (.list xs)=true):bh neg e (.s i) (.l [])=some (.d (.bool (if neg then !xs.isEmpty else xs.isEmpty))):=by
  unfold bh
  simp only [gE,h,NF,hs]
  have h0:NQ (.list [])=true:=by simp [NQ,Oa,OG,Ot,OW]
  rw [h0]
  cases xs<;>simp [OH,PyData.eqvAll]
theorem jF(ns:List Int):NQ (.list (ns.map .int))=true∧NQ (.tuple (ns.map .int))=true:=by
  have h1:OG (ns.map PyData.int)=true:=by
    induction ns with
    | nil=>rfl
    | cons n r ih=>simp [OG,Oa,ih]
  have h2:OW (ns.map PyData.int)=0:=by
    clear h1
    induction ns with
    | nil=>rfl
    | cons n r ih=>simp [OW,Ot,ih]
  constructor<;>simp [NQ,Oa,Ot,h1,h2]
theorem jt{own:iz}{g:FG}{f:FS}(P:Nat→En→Prop):∀(items:List Nf) (k:Nat) (e:En),(∀i x e,items[i]?=some x→P (k+i) e→∃e1 e2,g x e=some e1∧f e1=some (.nx e2)∧keeps own e2∧P (k+i+1) e2)→P k e→∃e',jW own g f items e=some (.nx e')∧P (k+items.length) e'
  | [],k,e,_,h=>⟨e,rfl,h⟩
  | x::r,k,e,hs,h=>by
    obtain⟨e1,e2,h1,h2,h3,h4⟩:=hs 0 x e rfl h
    obtain⟨e',h5,h6⟩:=jt P r (k+1) e2 (fun i y e hy hp=>by
      have:=hs (i+1) y e (by simpa using hy) (by rw [show k+(i+1)=k+1+i by lia];exact hp)
      rw [show k+(i+1)+1=k+1+i+1 by lia] at this
      exact this) h4
    refine⟨e',?_,by rw [OO,show k+(r.length+1)=k+1+r.length by lia];exact h6⟩
    unfold jW
    simp only [h1,h2,NF,if_pos h3]
    exact h5
theorem dm{e:En}:keeps [] e:=fun _ h=>by cases h
theorem jT{W:List Nat}{fi:FI}{g:FG}{f:FS}{e e1:En}{items:List Nf}(h:fi e=some (items,[],e1)):gT W fi g f e=jW [] g f items e1:=by
  unfold gT;rw [h];rfl
theorem i0{lo:Int}{n i:Nat}{x:Nf}(h:(b5 lo n)[i]?=some x):x=.int (lo+i)∧i < n:=by
  unfold b5 at h
  rw [NT] at h
  obtain⟨k,h1,rfl⟩:=M8 h
  obtain⟨h2,h3⟩:=M9 h1
  simp at h2 h3
  subst h3
  exact⟨rfl,h2⟩
theorem kr{lo:Int}{n:Nat}:(b5 lo n).length=n:=by simp [b5]
theorem ef{fs:FA}{e e1:En}{n:Int}(h:fs e=some ([.d (.int n)],e1))(h1: -1000000≤n)(h2:n≤1000000):cZ fs e=some (b5 0 n.toNat,[],e1):=by
  unfold cZ;rw [h]
  have:Al n=true:=by unfold Al;rw [decide_eq_true h1,decide_eq_true h2];rfl
  simp [cC,this]
theorem pW{ft:FT}{f:FS}(P:En→Prop)(μ:En→Nat)(hs:∀e,P e→(∃e1,ft e=some (false,e1)∧True)∨∃e1 e2,ft e=some (true,e1)∧f e1=some (.nx e2)∧P e2∧μ e2 < μ e):
    ∀(n:Nat) (e:En),P e→μ e < n→∃e0 e',i9 ft f n e=some (.nx e')∧P e0∧ft e0=some (false,e'):=by
  intro n
  induction n with
  | zero=>intro e _ h;lia
  | succ n ih=>
    intro e hp hm
    rcases hs e hp with ⟨e1,h1,_⟩ | ⟨e1,e2,h1,h2,h3,h4⟩
    · exact⟨e,e1,by unfold i9;rw [h1];rfl,hp,h1⟩
    · obtain⟨e0,e',g1,g2⟩:=ih e2 h3 (by lia)
      exact⟨e0,e',by unfold i9;rw [h1];simp only [NF,if_true,h2];exact g1,g2⟩
theorem fy{cs:En}{ft:FT}{fe:FE}{b:Nf→Bool}{y:Nf→Nf}:∀(items:List Nf) (t:Option Sv) (acc:List Nf),(∀x∈items,ft (cs++[some (.d x)])=some (b x,cs++[some (.d x)]))→(∀x∈items,b x=true→fe (cs++[some (.d x)])=some (.d (y x),cs++[some (.d x)]))→
    acc.length+items.length≤1000000→∃t',eH (aj cs.length) ft fe items (cs++[t]) acc=some (acc++(items.filter b).map y,cs++[t'])
  | [],t,acc,_,_,_=>⟨t,by simp [eH]⟩
  | x::r,t,acc,h1,h2,hl=>by
    have hg:aj cs.length x (cs++[t])=some (cs++[some (.d x)]):=by simp [aj]
    have h1x:=h1 x (by simp)
    unfold eH
    rw [hg]
    simp only [NF,h1x]
    cases hb:b x with
    | true=>
      simp only [if_true,h2 x (by simp) hb,NF,gO]
      rw [if_pos (by simp at hl;lia)]
      obtain⟨t',ih⟩:=fy (b:=b) (y:=y) r (some (.d x)) (acc++[y x]) (fun z hz=>h1 z (by simp [hz])) (fun z hz=>h2 z (by simp [hz])) (by simp at hl ⊢;lia)
      exact⟨t',by rw [ih];simp [hb]⟩
    | false=>
      simp only [QG,if_false]
      obtain⟨t',ih⟩:=fy (b:=b) (y:=y) r (some (.d x)) acc (fun z hz=>h1 z (by simp [hz])) (fun z hz=>h2 z (by simp [hz])) (by simp at hl;lia)
      exact⟨t',by rw [ih];simp [hb]⟩
theorem pT{cp:List (Nat × Str)}{nT:Nat}{fi:FI}{g:FG}{ft:FT}{fe:FE}{e e1 eo:En}{items out:List Nf}(h1:fi e=some (items,[],e1))(h3:eH g ft fe items (rP cp nT e1) []=some (out,eo))(h4:(cp.all fun p=> !wB e1[p.1]?)=true):b_ cp nT fi g ft fe e=some (.l out,e1):=by
  unfold b_
  rw [h1]
  simp only [NF,List.all_nil,if_true,h3]
  have hb:iE cp eo e1=true:=by
    unfold iE
    rw [NV] at h4 ⊢
    intro p hp
    rw [h4 p hp];rfl
  rw [if_pos hb]
  congr 2
  refine Pj fun i=>?_
  rw [bI]
  match hi:e1[i]? with
  | none=>rfl
  | some none=>rfl
  | some (some (.d x))=>rfl
  | some (some (.n x))=>rfl
  | some (some (.l x))=>
    cases hp:md cp i with
    | none=>simp [hp]
    | some k=>
      obtain⟨s,hs⟩:=em hp
      have:=NV.mp h4 _ (Nb hs)
      simp [hi,wB] at this
theorem l4{fa:FE}{e e1:En}{xs:List Nf}(h:fa e=some (.d (.tuple xs),e1)):jX fa e=some (xs,[],e1):=by
  unfold jX;rw [h];rfl
theorem uM{cp:List (Nat × Str)}{nT:Nat}{fi:FI}{g:FG}{ft:FT}{fe:FE}{e e1 cs:En}{t t':En}{items out:List Nf}(h1:fi e=some (items,[],e1))(hc:rP cp nT e1=cs++t)(hl:cs.length=cp.length)(h3:eH g ft fe items (rP cp nT e1) []=some (out,cs++t')):b_ cp nT fi g ft fe e=some (.l out,e1):=by
  have key:∀i x,e1[i]?=some (some (.l x))→∀k,md cp i=some k→(cs++t')[k]?=some (some (.l x)):=by
    intro i x hi k hk
    obtain⟨s,hs⟩:=em hk
    have hk2:k < cp.length:=(M9 hs).1
    have:(rP cp nT e1)[k]?=some (some (.l x)):=by
      unfold rP
      rw [OV (by simpa using hk2),NT,hs]
      simp [hi,G2]
    rw [hc,OV (by lia)] at this
    rw [OV (by lia)]
    exact this
  unfold b_
  rw [h1]
  simp only [NF,List.all_nil,if_true,h3]
  have hb:iE cp (cs++t') e1=true:=by
    unfold iE
    rw [NV]
    intro p hp
    match hi:e1[p.1]? with
    | none=>simp [wB]
    | some none=>simp [wB]
    | some (some (.d x))=>simp [wB]
    | some (some (.n x))=>simp [wB]
    | some (some (.l x))=>
      cases hq:md cp p.1 with
      | none=>
        unfold md at hq
        rw [QK] at hq
        have:=hq p hp
        simp at this
      | some k=>simp [key p.1 x hi k hq,wB]
  rw [if_pos hb]
  congr 2
  refine Pj fun i=>?_
  rw [bI]
  match hi:e1[i]? with
  | none=>rfl
  | some none=>rfl
  | some (some (.d x))=>rfl
  | some (some (.n x))=>rfl
  | some (some (.l x))=>
    cases hp:md cp i with
    | none=>simp [hp]
    | some k=>simp [hp,key i x hi k hp]
theorem nW{α:Type}{xs:List α}{i:Int}(h0:0≤i)(h1:i < xs.length):∃x∈xs,atI xs i=some x:=by
  rw [iC h0 h1]
  exact⟨xs[i.toNat]'(by lia),QI _,OF _⟩
theorem oG{e:En}{xs:List Nf}{i:Int}:du e (.l xs) (.d (.int i))=(atI xs i).map .d:=rfl
theorem fQ{e:En}{xs:List Nf}{i:Int}:du e (.d (.tuple xs)) (.d (.int i))=(atI xs i).map .d:=rfl
theorem kc{e:En}{xs:List Nf}{i:Int}:du e (.d (.list xs)) (.d (.int i))=(atI xs i).map .d:=rfl
theorem oH{e:En}{j:Nat}{xs:List Nf}{i:Int}(h:e[j]?=some (some (.l xs))):du e (.s j) (.d (.int i))=(atI xs i).map .d:=by
  simp [du,dU,h,cC]
theorem kf{e:En}{xs:List Nf}:g1 gB e [.d (.tuple xs)]=some (.d (.int xs.length)):=rfl
theorem iR{e:En}{xs:List Nf}:g1 gB e [.d (.list xs)]=some (.d (.int xs.length)):=rfl
theorem kd{e:En}{xs:List Nf}:g1 gB e [.l xs]=some (.d (.int xs.length)):=rfl
theorem ke{e:En}{j:Nat}{xs:List Nf}(h:e[j]?=some (some (.l xs))):g1 gB e [.s j]=some (.d (.int xs.length)):=by
  simp [g1,gB,dU,h]
theorem fY{e:En}{j:Nat}{xs:List Nf}(h:e[j]?=some (some (.l xs))):g1 dF e [.s j]=some (.d (.tuple xs)):=by
  simp [g1,dF,dU,h]
theorem fX{e:En}{xs:List Nf}:g1 dF e [.l xs]=some (.d (.tuple xs)):=rfl
theorem ee{e:En}{xs:List Nf}:g1 dF e [.d (.list xs)]=some (.d (.tuple xs)):=rfl
theorem fZ{e:En}{xs:List Nf}:g1 dF e [.d (.tuple xs)]=some (.d (.tuple xs)):=rfl
theorem oK{e:En}{xs:List Nf}{lo hi:Option Int}:GJ e (.d (.tuple xs)) lo hi=some (.d (.tuple (j9 xs lo hi))):=rfl
theorem jv{e:En}{xs ys:List Nf}(h:xs.length+ys.length≤1000000):cw e (.d (.tuple xs)) (.d (.tuple ys))=some (.d (.tuple (xs++ys))):=by
  simp [cw,A_,ww,gI,cC,oF,dU,h]
theorem D'{e:En}{i j:Int}(h:j≠0):bv e (.d (.int i)) (.d (.int j))=some (.d (.int (i.fmod j))):=by
  unfold bv;rw [lV (by simpa using h)]
theorem Bw{e:En}{i j:Int}(h:j≠0)(h2:Bt 8000 j):fP e (.d (.int i)) (.d (.int j))=some (.d (.int (i.fdiv j))):=by
  unfold fP;rw [lV (by simp [kP.mpr h2,h])]
theorem kY{e:En}{i j:Int}(h:zT i j=true):vf e (.d (.int i)) (.d (.int j))=some (.d (.int (i ^ j.toNat))):=by
  unfold vf;rw [lV h]
theorem lx:zT 10 18=true:=by decide
theorem jU{f g:FS}{e e1:En}(h:f e=some (.nx e1)):aO f g e=g e1:=by unfold aO;rw [h];rfl
theorem HH{ft:FT}{f g:FS}{e e1:En}(h:ft e=some (true,e1)):i4 ft f g e=f e1:=by unfold i4;rw [h];rfl
theorem HG{ft:FT}{f g:FS}{e e1:En}(h:ft e=some (false,e1)):i4 ft f g e=g e1:=by unfold i4;rw [h];rfl
def Dp(i:Nat)(e:En):Nat:=match e[i]? with
  | some (some (.l xs))=>xs.length
  | _=>0
def zu(i:Nat)(e:En):Nat:=match e[i]? with
  | some (some (.d (.int k)))=>k.natAbs
  | _=>0
theorem wC{n m:Nat}(h:n < 2 ^ m)(hm:m≤4200):n < 2 ^ 4200:=Oe h (QB (by decide) hm)
theorem j7{α:Type}{a:α}{r:List α}:atI (a::r) 0=some a:=by
  rw [iC (by decide) (by simp)];rfl
theorem dX{α:Type}{a b:α}{r:List α}:atI (a::b::r) 1=some b:=by
  rw [iC (by decide) (by simp;lia)];rfl
theorem ji{α:Type}{a b c:α}{r:List α}:atI (a::b::c::r) 2=some c:=by
  rw [iC (by decide) (by simp;lia)];rfl
theorem jj{α:Type}{a b c d:α}{r:List α}:atI (a::b::c::d::r) 3=some d:=by
  rw [iC (by decide) (by simp;lia)];rfl
theorem eE{W:aT}{k:Int}(h:gU W k):atI (W.ties.map bW) k=some (bW (W.tie k)):=by
  rw [iC h.1 (by rw [NN];exact h.2),NT,h.get];rfl
theorem ti{ns:List Int}{k:Int}(h0:0≤k)(h1:k < (ns.length:Int)):atI (ns.map PyData.int) k=some (.int (ns.getD k.toNat 0)):=by
  rw [iC h0 (by rw [NN];exact h1),NT]
  have:k.toNat < ns.length:=by lia
  simp [this]
theorem oe{a b c d:Nf}:j9 [a,b,c,d] none (some 2)=[a,b]:=rfl
theorem d9{a b c d:Nf}:j9 [a,b,c,d] (some 2) none=[c,d]:=rfl
theorem dZ{a b c:Nf}:j9 [a,b,c] (some 1) none=[b,c]:=rfl
theorem tG(ns:List Int):OG (ns.map PyData.int)=true:=by
  induction ns with
  | nil=>rfl
  | cons n r ih=>simp [OG,Oa,ih]
theorem tf{x:Int}:∀(ns:List Int),((ns.map PyData.int).any fun y=>OH y (.int x))=ns.contains x
  | []=>rfl
  | n::r=>by
    rw [NP,QL,tf r,List.contains_cons]
    show(n==x || _)=_
    rw [show(n==x)=(x==n) by rw [QH];simp;exact eq_comm]
theorem eK{e:En}{x:Int}{ns:List Int}{neg:Bool}:uU neg e (.d (.int x)) (.d (.tuple (ns.map .int)))=some (.d (.bool (if neg then !ns.contains x else ns.contains x))):=by
  unfold uU
  simp only [gE,dU,NF,tG,tf]
  simp [Oa,Ot]
theorem iO{e:En}{x a b:Int}{neg:Bool}:uU neg e (.d (.int x)) (.d (.tuple [.int a,.int b]))=some (.d (.bool (if neg then !(a==x || b==x) else(a==x || b==x)))):=by
  have h:=eK (e:=e) (x:=x) (ns:=[a,b]) (neg:=neg)
  simp only [NP,Om] at h
  rw [h]
  have:[a,b].contains x=(a==x || b==x):=by
    simp only [List.contains_cons,List.contains_nil,Bool.or_false]
    rw [show(x==a)=(a==x) by rw [QH];simp;exact eq_comm,show(x==b)=(b==x) by rw [QH];simp;exact eq_comm]
  rw [this]
theorem iT{e:En}{ns:List Int}(h:ns.length < 64):g1 ed e [.d (.tuple (ns.map .int))]=some (.l ((io ns).map .int)):=by
  simp [g1,ed,dU,l5,h]
def Bc(p:Int→Bool):Nf→Bool
  | .int k=>p k
  | _=>false
theorem cB(W:aT):aA W=.tuple [.int W.things,.tuple (W.ties.map bW),.tuple (W.pat.map .int),.int W.asks]:=rfl
def Sh(n:Nat)(d:Nf):Prop:=d.canLay0=true∧d.depth≤n
theorem Sh.mono{n m:Nat}{d:Nf}(h:Sh n d)(l:n≤m):Sh m d:=⟨h.1,NR h.2 l⟩
theorem Sh.ok{n:Nat}{d:Nf}(h:Sh n d)(l:n≤64):NQ d=true:=by
  unfold NQ;rw [h.1,decide_eq_true (NR h.2 l)];rfl
theorem Sh.int{k:Int}:Sh 2 (.int k):=⟨by simp [Oa],by simp [Ot]⟩
theorem Sh.all{n:Nat}:∀{ds:List Nf},(∀d∈ds,Sh n d)→OG ds=true∧OW ds≤n
  | [],_=>⟨rfl,by simp [OW]⟩
  | d::r,h=>by
    obtain⟨a1,a2⟩:=h d (by simp)
    obtain⟨b1,b2⟩:=Sh.all (ds:=r) fun x hx=>h x (by simp [hx])
    exact⟨by simp [OG,a1,b1],by simp only [OW];lia⟩
theorem Sh.tup{n:Nat}{ds:List Nf}(h:∀d∈ds,Sh n d):Sh (n+2) (.tuple ds):=by
  obtain⟨b1,b2⟩:=Sh.all h
  exact⟨by simp [Oa,b1],by simp only [Ot];lia⟩
theorem Sh.ints{ns:List Int}:Sh 4 (.tuple (ns.map .int)):=Sh.tup (n:=2) fun d hd=>by
  obtain⟨k,_,rfl⟩:=M' hd
  exact Sh.int
theorem Sh.tie{t:lQ}:Sh 6 (bW t):=Sh.tup (n:=4) fun d hd=>by
  simp only [OJ,Pt,or_false] at hd
  rcases hd with rfl | rfl | rfl | rfl
  · exact Sh.int.mono (by decide)
  · exact Sh.int.mono (by decide)
  · exact Sh.ints (ns:=[t.top,t.bot])
  · exact Sh.int.mono (by decide)
theorem uh:∀(n:Nat) (l:List Int),l.Nodup→(∀k∈l,0≤k∧k < (n:Int))→l.length≤n
  | 0,l,_,h=>by
    cases l with
    | nil=>simp
    | cons a r=>have:=h a (by simp);lia
  | n+1,l,hd,h=>by
    have ih:=uh n (l.erase (n:Int)) (hd.erase _) fun k hk=>by
      obtain⟨h1,h2⟩:=hd.mem_erase_iff.mp hk
      have:=h k h2
      lia
    by_cases c:(n:Int)∈l
    · rw [List.length_erase_of_mem c] at ih;lia
    · rw [List.erase_of_not_mem c] at ih;lia
abbrev Std:=List Int × List Int
structure iA (W:aT) (s:Std):Prop where
  inw:∀k∈s.1,gU W k
  nd:s.1.Nodup
  tk:s.2.length≤2*s.1.length
  th:∀t∈s.2,0≤t∧t < W.things
def nxt(W:aT)(s:Std)(k:Int)(b:Bool):Std:=(aT.askd s.1 k,W.took s.2 k b)
theorem iA.len{W:aT}{s:Std}(h:iA W s):s.1.length≤W.ties.length:=uh _ _ h.nd fun k hk=>h.inw k hk
theorem iA.first(W:aT):iA W ([],[]):=⟨fun k h=>(by cases h),List.nodup_nil,NA _,fun k h=>(by cases h)⟩
theorem nV{a:List Int}{k:Int}:(aT.askd a k).length=a.length+1:=by unfold aT.askd;rw [qV];simp
theorem iA.nxt{W:aT}{s:Std}{k:Int}(b:Bool)(ok:W.Ok)(h:iA W s)(hk:gU W k)(hn:k∉s.1):iA W (nxt W s k b):=by
  refine⟨fun j hj=>?_,?_,?_,?_⟩
  · have:=qW.mp hj
    rcases M_ this with z | z
    · exact h.inw j z
    · simp at z;rw [z];exact hk
  · refine(kz _).nodup_iff.mpr ?_
    rw [List.nodup_append]
    refine⟨h.nd,by simp,fun a ha b hb=>?_⟩
    simp at hb
    rintro rfl
    exact hn (hb ▸ ha)
  · have:=h.tk
    show(W.took s.2 k b).length≤2*(aT.askd s.1 k).length
    rw [nV]
    unfold aT.took
    split
    · rw [qV];simp;lia
    · lia
  · intro t ht
    have o:=hk.ok ok
    have:=o.o0;have:=o.o1;have:=o.o2
    change t∈W.took s.2 k b at ht
    unfold aT.took at ht
    split at ht
    · rcases M_ (qW.mp ht) with z | z
      · exact h.th t z
      · simp at z
        rcases z with rfl | rfl<;>lia
    · exact h.th t ht
structure Nd where
  tie:Int
  yes:Int
  no:Int
def DQ(W:aT)(n:Nat)(S:Nat→Std)(i:Nat)(k:Int)(b:Bool)(l:Int):Prop:=l= -1∨(0≤l∧l < (n:Int)∧S l.toNat=nxt W (S i) k b)
structure IM (W:aT) (n:Nat) (S:Nat→Std) (i:Nat) (x:Nd):Prop where
  tie:gU W x.tie
  st:iA W (S i)
  may:W.may (S i).1 (S i).2 x.tie=true
  yes:DQ W n S i x.tie true x.yes
  no:DQ W n S i x.tie false x.no
def IV(W:aT)(T:List Nd)(S:Nat→Std):Prop:=∀(i:Nat) (x:Nd),T[i]?=some x→IM W T.length S i x
structure Wt where
  st:Std
  par:Int
  side:Int
structure J0 (W:aT) (T:List Nd) (S:Nat→Std) (ws:List Wt):Prop where
  tr:IV W T S
  wt:∀w∈ws,iA W w.st∧(w.par= -1∨∃(p:Nat) (x:Nd),w.par=(p:Int)∧T[p]?=some x∧((w.side=0∧w.st=L2.nxt W (S p) x.tie true)∨(w.side=1∧w.st=L2.nxt W (S p) x.tie false)))
  side:∀w∈ws,w.side=0∨w.side=1
theorem Aq{W:List Nat}{fi:FI}{g:FG}{f:FS}{e e1:En}{items:List Nf}{own:iz}(h:fi e=some (items,own,e1))(ho:(own.all fun q=> !W.contains q.1)=true):gT W fi g f e=jW own g f items e1:=by
  unfold gT;rw [h];simp only [NF,ho,if_true]
def nm(nums:List Int)(l:Int):Int:=(atI nums l).getD (-1)
structure JI (order:List Int) (n:Nat) (nums:List Int):Prop where
  len:nums.length=n+1
  top:nums[n]?=some (-1)
  at':∀(j:Nat) (v:Int),j < n→nums[j]?=some v→v= -1∨∃p:Nat,v=(p:Int)∧order[p]?=some (j:Int)
def zv(T:List Nd)(w:Int):Nd:=T.getD w.toNat ⟨0,0,0⟩
structure Ka (S:Nat→Std) (n:Nat) (ss:List Std):Prop where
  len:ss.length=n
  at':∀(j:Nat) (s:Std),ss[j]?=some s→s.1.length≤(S j).1.length∧s.2.length≤2*s.1.length∧(∀k∈s.1,0≤k∧k < 16)∧∀t∈s.2,0≤t∧t < 12
theorem ax(s:String):NK (Ni s)=true:=by
  rw [Str.ofString_eq_toList]
  unfold NK
  simp only [NI,NN]
  rw [show(PM Char.toNat s.toList).toArray.all (fun a=>decide (a < 1114112)) 0 s.toList.length=(PM Char.toNat s.toList).all (fun a=>decide (a < 1114112)) by simp]
  rw [List.all_map,NV]
  intro c _
  show decide (c.toNat < 1114112)=true
  rw [decide_eq_true_eq]
  have:=c.valid
  unfold UInt32.isValidChar Nat.isValidChar at this
  show c.val.toNat < _
  lia
theorem fJ{a b:Str}(h1:NK a=true)(h2:NK b=true):NK (a++b)=true:=by
  unfold NK at*
  rw [show(a++b).cps=a.cps++b.cps from rfl]
  simp only [Array.all_append,h1,h2,Bool.and_self]
theorem pO{sep:Str}(h:NK sep=true):∀(ts:List Str),(∀t∈ts,NK t=true)→NK (Of sep ts)=true
  | [],_=>by show NK Pc=true;simp [NK,Pc]
  | [x],hx=>hx x (by simp)
  | x::y::r,hx=>fJ (fJ (hx x (by simp)) h) (pO h (y::r) fun t ht=>hx t (by simp at ht ⊢;exact .inr ht))
structure Sz (n dep:Nat) (d:Nf):Prop where
  fl:De d=true
  sh:d.showable=true
  dp:d.depth≤dep
  ln:d.shown.length≤n
  so:NK d.shown=true
theorem e_{e:En}{s:Str}(h:NK s=true):bh false e (.d (.str s)) (.d (.str s))=some (.d (.bool true)):=by
  simp [bh,gE,NQ,Oa,Ot,OH,h]
def dR(p:Int × Bool):Nf:=.tuple [.int p.1,.bool p.2]
def rn(T:List Nd)(ans:List Bool):Nat→Int→List (Int × Bool)
  | 0,_=>[]
  | f+1,at'=>if at' < 0 then [] else((zv T at').tie,ans.getD (zv T at').tie.toNat false)::rn T ans f (if ans.getD (zv T at').tie.toNat false=true then(zv T at').yes else(zv T at').no)
def rt(T:List Nd):Int:=if T.length=0 then -1 else 0
structure JL (W:aT) (T:List Nd) (S:Nat→Std) (ans:List Bool) (r:List (Int × Bool)) (a:Int):Prop where
  at':a= -1∨(0≤a∧a < (T.length:Int)∧r.length≤(S a.toNat).1.length)
  eq:r++rn T ans (17 - r.length) a=rn T ans 17 (rt T)
  len:r.length≤16
  inw:∀p∈r,gU W p.1
abbrev Fr:=Int × Int
def tm(a b:Fr):Fr:=eW (a.1*b.1) (a.2*b.2)
def pl(a b:Fr):Fr:=eW (a.1*b.2+b.1*a.2) (a.2*b.2)
structure j6 (M:Int) (f:Fr):Prop where
  pos:0 < f.2
  lo:0≤f.1
  hi:f.1≤f.2
  dv:f.2 ∣ M
structure Gj (M i:Int) (f:Fr):Prop where
  pos:0 < f.2
  lo:0≤f.1
  hi:f.1≤i*f.2
  dv:f.2 ∣ M
def bp(W:aT):List Int→Int
  | []=>1
  | k::r=>(W.tie k).bot*bp W r
def GE(W:aT):Int:=bp W W.rng
def ch(W:aT)(k:Int)(b:Bool):Fr:=if b then((W.tie k).top,(W.tie k).bot) else((W.tie k).bot - (W.tie k).top,(W.tie k).bot)
structure J' (W:aT) (S:Nat→Std) (n:Nat) (rs:List Fr):Prop where
  len:rs.length=n
  at':∀(j:Nat) (f:Fr),rs[j]?=some f→j6 (bp W (S j).1) f
structure J2 (W:aT) (i:Nat) (ss:List Fr):Prop where
  len:ss.length=W.ties.length
  at':∀(j:Nat) (f:Fr),ss[j]?=some f→Gj (GE W) (i:Int) f
def Gf(sc:NL)(x:Str):Bool:=match sc.names.lookup x with
  | some .local=>true
  | some .cell=>true
  | some .free=>true
  | _=>false
theorem C1{sc:NL}{x:Str}(h:Gf sc x=true):Gx sc x:=by
  unfold Gf at h
  unfold Gx
  split at h
  · rename_i e;exact .inl e
  · rename_i e;exact .inr (.inl e)
  · rename_i e;exact .inr (.inr e)
  · cases h
section
variable{X:Cx}{K:Ng}
theorem qw(i:Nat){x:Str}{pos:Pos}(hN:X.N[i]?=some x)(hv:Gf X.env.scope x=true)(hd:((x==("__debug__":Str)) || (x==("__classdict__":Str)))=false):PE X (.Name x pos) (fE K (ab i)):=qv i hN (C1 hv) (Bool.or_eq_false_iff.mp hd).1 (Bool.or_eq_false_iff.mp hd).2
end
section
variable{X:Cx}{tg a b c:Nh}{ta:TA}{p pos p2 pos2:Pos}
end
section
variable{K:Ng}{σ:L2.St}
end
section
variable{X:Cx}{K:Ng}{tg a b c:Nh}{fs:FA}{pos p p2 pos2:Pos}
end
section
variable(P:Nl)(w:Nj)
end
section
variable{P:Nl}{w:Nj}{H H':Hp}{h h':Nk}{a:xM}{o:HO}
end
section
variable{P:Nl}{w:Nj}{H:Hp}{h h':Nk}{x e:xM}{o':HO}
end
section
variable{fs fs' ex ex':List xM}{H H1 H2:Hp}{h h1 h2 h':Nk}{a x e:xM}{o:HO}
end
section
variable{X:Cx}{pins:List (xM × Obj)}{σ:List (Option V)}{H H':Hp}{s:Nc}{h':Nk}
end
section
variable{X:Cx}
variable{a b:Nh}{ta tb:TE}{pos:Pos}
variable{tA tB':TT}{cn:List Nh}
end
section
variable{X:Cx}{pins:List (xM × Obj)}{σ:St}{H:Hp}{s:Nc}{a:xM}{xs ys:List V}
end
section
variable{X:Cx}{pins:List (xM × Obj)}{σ:St}{H:Hp}{s:Nc}{E:Kz→Nc→Prop}
end
section
variable{X:Cx}{st:Nm}{cn:List Nm}{t u:TS}{e:Nh}{te:TE}{pos:Pos}
end
section
variable{X:Cx}{pos:Pos}
end
section
variable{X:Cx}{pos:Pos}
end
section
variable{X:Cx}{tg:Nh}
end
section
variable{X:Cx}{a b c:Nh}{ta tb tc:TE}{pos:Pos}
end
section
variable{X:Cx}{a b c:Nh}{ta tb tc:TE}{pos:Pos}
end
section
variable{prog:Nl}{w:Nj}{A:Nn}{E:Kz→Nc→Prop}{s:Nc}{K:Ng}{x dx C f:xM}{mA:Str→Option Kz}{name:Str}{v:Kz}
end
section
variable{P:Nl}{w:Nj}{H H':Hp}{h h':Nk}{a C dx:xM}{fs fs':List (Str × V)}
end
section
variable{X:Cx}{pins:List (xM × Obj)}{σ:St}{H:Hp}{s:Nc}{a C dx:xM}{fs:List (Str × V)}{f:Str}{v:V}{A:Nn}{E:Kz→Nc→Prop}
end
section
variable{X:Cx}{o e value:Nh}{f:Str}{pos pos' tpos:Pos}{ta tv:TE}
end
section
variable{X:Cx}{pins:List (xM × Obj)}{σ:St}{H:Hp}{s:Nc}{A:Nn}{E:Kz→Nc→Prop}{Q:Kz→Nc→Prop}{c:Kz}{b:Bool}
end
section
variable{X:Cx}{e:Nh}{es:List Nh}{te:TE}{t:TA}{pos:Pos}
end
section
variable{X:Cx}{pins:List (xM × Obj)}{σ:St}{H:Hp}{s s':Nc}
end
section
variable{X:Cx}{CX:sZ}{k:Nat}{f C:xM}{fd:Nx}{ps:List Str}{sp:Sp}{dvs:List V}{ds:List Kz}{E:XK}{x m:Str}{p pos apos:Pos}{e o:Nh}{es:List Nh}{ta:TE}{t:TA}
end
section
variable{X:Cx}{CX:sZ}{k:Nat}{f C:xM}{fd:Nx}{ps ks:List Str}{sp:Sp}{E:XK}{x m:Str}{p pos apos kpos:Pos}{e o:Nh}{es:List Nh}{kws:List Oi}{te ta:TE}{t tk:TA}{nm:Option Str}
variable{g:List Kz→List Kz→List Kz}{gV:List V→List V→List V}
end
section
variable{X:Cx}{x:Str}{p pos:Pos}{e:Nh}{es:List Nh}{t:TA}{id T:String}{r:List V→Hp→VK→Prop}
end
section
variable{κ:Type}[DecidableEq κ]
def Hl(kvs:List (κ × V))(k:κ)(v:V):List (κ × V):=
  if (kvs.any fun kv=>decide (kv.1=k))=true then kvs.map (fun kv=>if kv.1=k then(kv.1,v) else kv) else kvs++[(k,v)]
end
section
variable{P:Nl}{w:Nj}{H:Hp}{h:Nk}{a:xM}
end
section
variable{X:Cx}{pins:List (xM × Obj)}{σ:St}{H:Hp}{s:Nc}{a:xM}{y v:V}{u r:Kz}{o:Option V}{A:Nn}{E:Kz→Nc→Prop}
end
section
variable{X:Cx}{pins:List (xM × Obj)}{σ:St}{H:Hp}{s:Nc}{a:xM}{kvs:List (jg × V)}{k:jg}{u:Kz}{A:Nn}{E:Kz→Nc→Prop}
end
def IP(i:Nh):Prop:=∀ov iv,subscripted i false ov iv=operate [ov,iv] (getItem ov iv)
theorem CN{prog:Nl}{w:Nj}{A:Nn}{E:Kz→Nc→Prop}{s:Nc}{env:Env}{value slice:Nh}{pos:Pos}{T id:String}{Q:Kz→Nc→Prop}
    (hl:typeLookup (.type T) "__getitem__"=pure (some (.builtin id)))(hs:IP slice)
    (h:Np (Nr prog w) A (Nt value env) (fun o s₁=>Np (Nr prog w) A (Nt slice env) (fun i s₂=>s₂.TypeIs o T∧Np (Nr prog w) A (getItem o i) Q E s₂) E s₁) E s):
    Np (Nr prog w) A (Nt (.Subscript value slice pos) env) Q E s:=by
  refine Subscript_ (OB h (fun o s₁ h₁=>OB h₁ (fun i s₂ h₂=>?_) fun _ _ x=>x) fun _ _ x=>x)
  obtain⟨hT,h₂⟩:=h₂
  unfold subscriptTail
  refine Nu ?_
  rw [getitemInPython_of_ne hT.not_modules]
  refine Nu (wpAny_specialOf hT hl ?_)
  have fin:Np (Nr prog w) A (subscripted slice false o i) (fun r s₃=>Np (Nr prog w) A (letTemporaryGo value o r >>= fun _=>pure r) Q E s₃) E s₂:=by
    rw [hs o i]
    exact wpAny_operating (OB h₂ (fun r s₃ h₃=>Nu (wpAny_letTemporaryGo (Nz h₃))) fun _ _ x=>x)
  first
    | exact Nz (Nu fin)
    | exact Nu (Nz (Nu fin))
    | exact Nu fin
section
variable{X:Cx}{o i e value:Nh}{pos pos' tpos:Pos}{td ty tv:TE}
end
section
variable{X:Cx}{pos:Pos}
end
section
variable{X:Cx}{pins:List (xM × Obj)}{σ:St}{H:Hp}{s:Nc}{a:xM}{y d:V}{u r:Kz}{o:Option V}{A:Nn}{E:Kz→Nc→Prop}
end
section
variable{X:Cx}{o e f:Nh}{apos cpos:Pos}{td ty tx:TE}
end
section
variable{X:Cx}{pins:List (xM × Obj)}{σ:St}{H:Hp}{s:Nc}{a:xM}{kvs:List (jg × V)}{A:Nn}{E:Kz→Nc→Prop}
end
section
variable{X:Cx}{pins:List (xM × Obj)}{σ:St}{H:Hp}{s:Nc}{a:xM}{y:V}{u:Kz}{A:Nn}{E:Kz→Nc→Prop}
end
end L2
namespace Att
open PySem PySem.W PySem.Calls PyProof.Rows
section
variable{prog:Nl}{w:Nj}{A:Nn}{E:Kz→Nc→Prop}{s:Nc}{K:Frag}
end
end Att
namespace L2
open PySem PySem.Spec PyProof.Rows
section
variable{P:Nl}{w:Nj}{K:Ng}{mg:Str→Option Kz}{base:Nk}
end
section
variable{X:Cx}
end
section
variable{κ:Type}[DecidableEq κ]
end
def Ig:Nf→String
  | .none=>"NoneType"
  | .bool _=>"bool"
  | .int _=>"int"
  | .str _=>"str"
  | .tuple _=>"tuple"
  | .list _=>"list"
  | .dict _=>"dict"
def FZ(t T:String):Bool:=t==T || (t=="bool"&&T=="int")
def GS(T:String)(d:Nf):Bool:=FZ (Ig d) T
def xE(T:String):En→Rv→Option Rv:=fun _ r=>match r with
  | .d x=>some (.d (.bool (GS T x)))
  | _=>some (.d (.bool (GS T (.list []))))
section
variable{X:Cx}{K:Ng}{a:Nh}{fa:FE}{pos p p2:Pos}
def IW(K:Ng)(H:Hp):V→String→Prop
  | .non,t=>t="NoneType"
  | .bl _,t=>t="bool"
  | .int _,t=>t="int"
  | .str _,t=>t="str"
  | .ref a,t=>(t="tuple"∧∃xs,dW K H a xs)∨(t="list"∧∃xs,iu K H a xs)∨(t="dict"∧∃m,H a=some (.dK m))
  | _,_=>False
theorem yC{T:String}:cQ X (.builtin "isinstance") (fun xs H Q=>∃x t b,xs=[x,.ty T]∧IW X.K H x t∧PySem.W.kitOne X.K (.type t) (.type T)=some b∧Q (.bl b) H):=by
  intro pins s σ H xs us Q I r h
  obtain⟨x,t,b,rfl,ht,hk,q⟩:=h
  obtain⟨u1,u2,rfl,r1,r2⟩:∃u1 u2,us=[u1,u2]∧bE x u1∧bE (.ty T) u2:=by
    cases r with
    | cons p q=>cases q with
      | cons p' q'=>cases q';exact⟨_,_,rfl,p,p'⟩
  cases r2
  have q':∀tk,EP X pins σ Q (.bool b) {s with toks:=tk}:=fun tk=>⟨.bl b,H,I.tok _,rfl,q⟩
  cases x with
  | non=>cases (show u1=Value.none from r1);cases (show t=_ from ht);exact PN PySem.W.kitx_none I.kIn PU hk (fun z=>nomatch z) q'
  | bl y=>cases (show u1=Value.bool y from r1);cases (show t=_ from ht);exact PN PySem.W.kitx_bool I.kIn PU hk (fun z=>nomatch z) q'
  | int i=>obtain⟨tt,rfl⟩:=r1;cases (show t=_ from ht);exact PN PySem.W.kitx_int I.kIn PU hk (fun z=>nomatch z) q'
  | str y=>obtain⟨tt,rfl⟩:=r1;cases (show t=_ from ht);exact PN PySem.W.kitx_str I.kIn PU hk (fun z=>nomatch z) q'
  | ref a=>
    cases (show u1=Value.ref a from r1)
    rcases ht with ⟨rfl,xs,hs⟩ | ⟨rfl,xs,hs⟩ | ⟨rfl,m,hs⟩
    · obtain⟨its,rv,pl,hz⟩:=I.tuple hs
      obtain⟨o,h1,h2⟩:=pl.typeIs
      exact PN PySem.W.kitx_tuple I.kIn ⟨o,h1,h2⟩ hk (fun z=>nomatch z) q'
    · obtain⟨its,rv,pl,hz⟩:=I.list hs
      obtain⟨o,h1,h2⟩:=pl.isList.typeIs
      exact PN PySem.W.kitx_list I.kIn ⟨o,h1,h2⟩ hk (fun z=>nomatch z) q'
    · obtain⟨_,_,vs,_,pp⟩:=(show eZ X.prog X.w H s.heap a (.dK m) from I.hok a _ hs)
      obtain⟨o,es,ep,h1,h2,_⟩:=pp
      exact PN PySem.W.kitx_dict I.kIn ⟨o,h1,h2.1⟩ hk (fun z=>nomatch z) q'
  | _=>exact OC ht
theorem zO{x:Str}{T:String}(hg:Gl X x)(hm:X.mg x=none)(hv:ON x=some (.type T))(hn:x≠"__name__")(hd:(x==("__debug__":Str))=false):PE X (.Name x pos) (tC (.ty T)):=fun pins s σ H Q I h=>
  r6 I hg hm hv ⟨.ty T,H,I,rfl,h⟩ hn hd
theorem Es{t T:String}(ht:t∈["NoneType","bool","int","str","tuple","list","dict"])(hT:T∈["int","bool","tuple","str"]):PySem.W.kitOne K (.type t) (.type T)=some (FZ t T):=by
  simp only [OJ,Pt,or_false] at ht hT
  rcases ht with rfl | rfl | rfl | rfl | rfl | rfl | rfl<;>rcases hT with rfl | rfl | rfl | rfl<;>rfl
theorem CV(d:Nf):Ig d∈["NoneType","bool","int","str","tuple","list","dict"]:=by cases d<;>simp [Ig]
theorem Ga{F H:Hp}{d:Nf}{v:V}(h:DA K F d v)(s:ao F H):IW K H v (Ig d):=by
  have h:=DA.mono s h
  cases d with
  | none=>rw [eu.mp h];rfl
  | bool b=>rw [cX.mp h];rfl
  | int b=>rw [bS.mp h];rfl
  | str b=>rw [iI.mp h];rfl
  | tuple ds=>obtain⟨a,xs,rfl,h1,_⟩:=df.mp h;exact .inl ⟨rfl,xs,h1⟩
  | list ds=>obtain⟨a,xs,rfl,h1,_⟩:=eV.mp h;exact .inr (.inl ⟨rfl,xs,h1⟩)
  | dict m=>simp only [DA] at h;obtain⟨a,m,rfl,h1,_⟩:=h;exact .inr (.inr ⟨rfl,_,h1⟩)
theorem Bs{f:FE}{σ:L2.St}{H:Hp}{Q Q':VK}(h:fE K f σ H Q)(m:∀v H1,Q v H1→Q' v H1):fE K f σ H Q':=by
  obtain⟨F,e,r,e',R,hf,q⟩:=h
  exact⟨F,e,r,e',R,hf,fun F' H' v x R' A=>m _ _ (q F' H' v x R' A)⟩
theorem GT{T:String}:Gm K (fun v H Q=>∃t,t∈["NoneType","bool","int","str","tuple","list","dict"]∧IW K H v t∧Q (.bl (FZ t T)) H) (xE T):=by
  intro σ H0 F H e x z v Q R A hg q
  unfold xE at hg
  cases x with
  | d d=>
    cases hg
    exact⟨Ig d,CV d,Ga A R.sm,q F H _ (cW.refl _ _ _ _) R dN⟩
  | l xs=>
    cases hg
    obtain⟨l,vs,rfl,h1,h2,h3,h4⟩:=A
    exact⟨"list",by simp,.inr (.inl ⟨rfl,vs,iu.of h3⟩),q F H _ (cW.refl _ _ _ _) R dN⟩
  | s i=>
    cases hg
    obtain⟨h1,xs,h2⟩:=A
    obtain⟨l,vs,h3,h4,h5,h6⟩:=R.own i xs h2
    rw [h1] at h3;cases h3
    exact⟨"list",by simp,.inr (.inl ⟨rfl,vs,iu.of h5⟩),q F H _ (cW.refl _ _ _ _) R dN⟩
theorem Dw{x:Str}{T:String}(hK:X.K=K)(hT:T∈["int","bool","tuple","str"])(hg:Gl X "isinstance")(hm:X.mg "isinstance"=none)(hgT:Gl X x)(hmT:X.mg x=none)(JP:ON x=some (.type T))(hn:x≠"__name__")(hd:(x==("__debug__":Str))=false)
    (ha:PE X a (fE K fa))(he:Nq [a,.Name x p2] X.env=(false,Nt a X.env)::Nq [.Name x p2] X.env)(hpl:(ND pos (Nq [.Name x p2] X.env)).any (·.1)=false):
    PE X (.Call (.Name "isinstance" p) [a,.Name x p2] [] pos) (fE K (uS (xE T) fa)):=
  (oZ (yC (T:=T)) hg hm boot_isinstance (lw ha (lw (zO hgT hmT JP hn hd) gR) he) (by decide) (by decide) he hpl).mono fun σ H Q h=>by
    subst hK
    have h1:=AY (GT (T:=T)) h
    refine Bs h1 fun v H1 ⟨t,ht,k,q⟩=>?_
    exact⟨v,t,_,rfl,k,Es ht hT,q⟩
end
section
variable{X:Cx}{K:Ng}
end
section
variable{X:Cx}{K:Ng}{σ:L2.St}{F H:Hp}{e:En}{pos p1 p2:Pos}
end
section
variable{X:Cx}{K:Ng}{a b c d:Nh}{ta tb tc td:TE}{fa fb fc fd:FE}{pos:Pos}
end
section
variable{X:Cx}{K:Ng}{a b:Nh}{es:List Nh}{fa fb:FE}{fs:FA}{pos p apos:Pos}
def bR:Rv→Option Str
  | .d (.str x)=>some x
  | _=>none
theorem cV{σ:L2.St}{H0 F H:Hp}{e:En}{r:Rv}{v:V}{x:Str}(h:ce K σ H0 F H e r v)(q:bR r=some x):v=.str x:=by
  unfold bR at q
  split at q
  · cases q;exact iI.mp (show DA K F (.str _) v from h)
  · cases q
theorem mh{σ:L2.St}{H0 F H:Hp}{e:En}{x:Str}:ce K σ H0 F H e (.d (.str x)) (.str x):=(show DA K F (.str x) (.str x) from iI.mpr rfl)
def g_:En→Rv→Rv→Option Rv:=fun _ x y=>(bR x).bind fun i=>(bR y).bind fun j=>if i.length+j.length≤1000000 then some (.d (.str (i++j))) else none
def DC:R2:=fun x y H Q=>∃i j,x=.str i∧y=.str j∧i.length+j.length≤Ny∧Q (.str (i++j)) H
theorem B4:gD X (NZ .Add) DC:=by
  intro pins s σ H x y v u Q I rx ry h
  obtain⟨i,j,rfl,rfl,hl,q⟩:=h
  obtain⟨t,rfl⟩:=rx;obtain⟨t',rfl⟩:=ry
  exact PyProof.Rows.add_str (fun t' tk=>⟨.str (i++j),H,I.tok _,⟨_,rfl⟩,q⟩) hl
theorem DU:gy K DC g_:=by
  intro σ H0 F H e x y z v u Q R A B hg q
  unfold g_ at hg
  obtain⟨i,h1,hg⟩:=M7 hg
  obtain⟨j,h2,hg⟩:=M7 hg
  split at hg
  case isFalse=>cases hg
  case isTrue hl=>
  cases hg
  exact⟨i,j,cV A h1,cV B h2,by rw [Oh];lia,q F H _ (cW.refl _ _ _ _) R mh⟩
theorem sI(ha:PE X a (fE K fa))(hb:PE X b (fE K fb)):PE X (.BinOp a .Add b pos) (fE K (ay g_ fa fb)):=pd B4 DU ha hb
def gC:En→Rv→Option Rv:=fun _ x=>match x with
  | .d (.int i)=>if i.natAbs.log2 < 1900 then some (.d (.str (toString i:String))) else none
  | .d (.str x)=>some (.d (.str x))
  | _=>none
def Aj:V→Hp→VK→Prop:=fun v H Q=>(∃i:Int,v=.int i∧i.natAbs.log2 < 1900∧Q (.str (toString i:String)) H)∨∃x,v=.str x∧Q (.str x) H
theorem xt:cQ X (.type "str") (fun xs H Q=>∃v,xs=[v]∧Aj v H Q):=by
  intro pins s σ H xs us Q I r h
  obtain⟨v,rfl,h⟩:=h
  obtain⟨u,rfl,ru⟩:=iW r
  rcases h with ⟨i,rfl,hi,q⟩ | ⟨x,rfl,q⟩
  · obtain⟨t,rfl⟩:=ru
    exact PySem.P.str_of_int (by lia) ⟨.str _,H,I.tok _,⟨_,rfl⟩,q⟩
  · obtain⟨t,rfl⟩:=ru
    exact PySem.P.str_of_str ⟨.str _,H,I,⟨_,rfl⟩,q⟩
theorem FX:Gm K Aj gC:=by
  intro σ H0 F H e x z v Q R A hg q
  unfold gC at hg
  split at hg
  · split at hg
    case isFalse=>cases hg
    case isTrue hi=>
    cases hg
    exact .inl ⟨_,bS.mp (show DA K F (.int _) v from A),hi,q F H _ (cW.refl _ _ _ _) R mh⟩
  · cases hg
    exact .inr ⟨_,iI.mp (show DA K F (.str _) v from A),q F H _ (cW.refl _ _ _ _) R mh⟩
  · cases hg
theorem FW:cO K (fun xs H Q=>∃v,xs=[v]∧Aj v H Q) (g1 gC):=et fun σ H0 F H e x z v Q R A hg q=>⟨v,rfl,FX σ H0 F H e x z v Q R A hg q⟩
theorem b_str:j4 X K "str" (g1 gC):=⟨.inr ⟨_,_,xt,FW,Rj⟩⟩
def uE:List Nf→Option (List Str)
  | []=>some []
  | .str x::r=>(uE r).map (x::·)
  | _::_=>none
theorem uF:∀{ds:List Nf} {ys:List Str},uE ds=some ys→ds=ys.map .str
  | [],_,h=>by cases h;rfl
  | .str x::r,ys,h=>by
    obtain⟨zs,h1,rfl⟩:=M8 h
    rw [uF h1];rfl
  | .none::_,_,h=>by cases h
  | .bool _::_,_,h=>by cases h
  | .int _::_,_,h=>by cases h
  | .tuple _::_,_,h=>by cases h
  | .list _::_,_,h=>by cases h
  | .dict _::_,_,h=>by cases h
theorem tL{F:Hp}:∀{ys:List Str} {xs:List V},aQ K F (ys.map .str) xs→xs=ys.map V.str
  | [],_,h=>by simpa [aQ] using h
  | y::ys,_,h=>by
    simp only [NP,aQ,DA] at h
    obtain⟨x,r,e,rfl,q⟩:=h
    rw [e,tL q];rfl
def mE:En→Rv→Rv→Option Rv:=fun e x y=>(bR x).bind fun sep=>(dU e y).bind fun p=>(uE p.2).bind fun ys=>if sep.length≤16∧(ys.map (·.length)).sum+ys.length≤1048576 then some (.d (.str (Txt.join sep ys))) else none
def DD(K:Ng):V→List V→Hp→VK→Prop:=fun x vs H Q=>∃sep l ys,x=.str sep∧vs=[.ref l]∧(iu K H l (ys.map V.str)∨dW K H l (ys.map V.str))∧sep.length≤16∧(ys.map (·.length)).sum+ys.length≤1048576∧Q (.str (Txt.join sep ys)) H
theorem kB:∀{ys:List Str} {us:List Kz},aS (ys.map V.str) us→StrsAre us ys
  | [],_,h=>by cases h;exact .nil
  | y::ys,_,h=>by
    cases h with
    | cons p q=>obtain⟨t,rfl⟩:=p;exact .cons _ _ (kB q)
theorem BQ:DR X "str.join" (DD X.K):=by
  intro pins s σ H x vs v us Q I rx rv h
  obtain⟨sep,l,ys,rfl,rfl,hs,h1,h2,q⟩:=h
  obtain⟨t,rfl⟩:=rx
  obtain⟨u,rfl,ru⟩:=iW rv
  cases ru
  have q':∀t' k,EP X pins σ Q (.str (Txt.join sep ys) t') {s with toks:=k}:=fun t' k=>⟨.str _,H,I.tok _,⟨_,rfl⟩,q⟩
  rcases hs with hs | hs
  · obtain⟨its,r,pl,hz⟩:=I.list hs
    exact join_listW pl.isList (kB r) h1 h2 q'
  · obtain⟨its,r,pl,hz⟩:=I.tuple hs
    exact join_tupleW pl (kB r) h1 h2 q'
theorem Ef:gy K (fun v u H Q=>DD K v [u] H Q) mE:=by
  intro σ H0 F H e x y z v u Q R A B hg q
  unfold mE at hg
  obtain⟨sep,h1,hg⟩:=M7 hg
  obtain⟨⟨k,ds⟩,h2,hg⟩:=M7 hg
  obtain⟨ys,h3,hg⟩:=M7 hg
  split at hg
  case isFalse=>cases hg
  case isTrue hl=>
  cases hg
  obtain⟨l,ws,rfl,d1,s1⟩:=cN R B h2
  have e1:=uF h3
  subst e1
  have e2:=tL d1
  subst e2
  refine⟨sep,l,ys,cV A h1,rfl,?_,hl.1,hl.2,q F H _ (cW.refl _ _ _ _) R mh⟩
  cases k with
  | true=>exact .inl s1
  | false=>exact .inr s1
theorem z5{x:Str}{j:Nat}{p0:Pos}(hK:X.K=K)(ha:PE X a (fE K fa))(hs:Nq [a] X.env=(false,Nt a X.env)::Nq [] X.env)
    (hbase:Oy (.Constant (.str x) j p0) "join" X.env (Nt (.Constant (.str x) j p0) X.env)=Nt (.Constant (.str x) j p0) X.env)
    (hfew:((ND pos (Nq [a] X.env)).all (fun x=> !x.1)&&(OT pos (OU [] X.env)).all (fun x=>x.1.isSome)&&decide (([a]:List Nh).length+([]:List Oi).length+(if ([]:List Oi).isEmpty then 0 else 1) < 30))=true)
    (hline:(apos.endLine==pos.line)=true)(hplain:(ND pos (Nq [] X.env)).any (·.1)=false):
    PE X (.Call (.Attribute (.Constant (.str x) j p0) "join" apos) [a] [] pos) (fE K (ay mE (vC (.str x)) fa)):=
  (zK Rk PySem.F.slot_str_join PySem.F.type_str_join BQ (@vH X x j p0) (lw ha gR hs) hbase hfew hline hs hplain).mono fun σ H Q h=>by
    subst hK
    have h1:=pV Ef h
    obtain⟨F,e,r,e',R,hf,q⟩:=h1
    cases hf
    exact⟨rfl,q F H _ (cW.refl _ _ _ _) R mh⟩
theorem oQ(x y:Str):(x++y).length=x.length+y.length:=strLen_append x y
end
section
variable{X:Cx}{K:Ng}{a b:Nh}{fa fb:FE}{fs:FA}{pos p p2 p3:Pos}
end
def bq(W:aT)(as:List Int):Int:=bp W (W.rng.filter fun k=> !as.contains k)
def wI(l:Nat):Int:=1000*(2 ^ (16 - l) - 1)
theorem Ih{l:Nat}:0≤wI l∧wI l≤65536000:=by
  unfold wI
  have h1:(2:Nat) ^ (16 - l)≤2 ^ 16:=QB (by decide) (by lia)
  have h2:1≤(2:Nat) ^ (16 - l):=Nat.one_le_two_pow
  have e:((2:Int) ^ (16 - l))=((2 ^ (16 - l):Nat):Int):=by simp
  rw [e]
  lia
structure JV (W:aT) (k:Int) (as:List Int) (y n:Fr):Prop where
  y:Gj (bq W (aT.askd as k)) (wI (as.length+1)) y
  n:Gj (bq W (aT.askd as k)) (wI (as.length+1)) n
  len:as.length≤15
  inw:gU W k
  new:k∉as
def lk(ws:List Fr)(l:Int):Fr:=if l= -1 then(0,1) else ws.getD l.toNat (0,1)
structure IZ (W:aT) (S:Nat→Std) (n:Nat) (ws:List Fr):Prop where
  len:ws.length=n
  at':∀(j:Nat) (f:Fr),ws[j]?=some f→Gj (bq W (S j).1) (wI (S j).1.length) f
theorem Gg{M i:Int}(h:0≤i):Gj M i (0,1):=⟨by decide,by decide,by show(0:Int)≤i*1;lia,Int.one_dvd _⟩
theorem zg{W:aT}{S:Nat→Std}{n:Nat}{ws:List Fr}{i:Nat}{k:Int}{b:Bool}{l:Int}(h:IZ W S n ws)(hl:DQ W n S i k b l):Gj (bq W (aT.askd (S i).1 k)) (wI ((S i).1.length+1)) (lk ws l):=by
  unfold lk
  rcases hl with hl | ⟨h1,h2,h3⟩
  · rw [if_pos hl];exact Gg Ih.1
  · rw [if_neg (by lia)]
    have hil:l.toNat < ws.length:=by rw [h.len];lia
    have e:ws[l.toNat]?=some (ws.getD l.toNat (0,1)):=by simp [hil]
    have:=h.at' _ _ e
    rw [h3] at this
    have e1:(nxt W (S i) k b).1.length=(S i).1.length+1:=nV
    rw [e1] at this
    exact this
theorem fL{cs:En}{g:FG}{ft:FT}{fe:FE}{b:Nf→Bool}{y:Nf→Nf}{u:Nf→En}(n:Nat):∀(items:List Nf) (t:En) (acc:List Nf),t.length=n→(∀x∈items,∀t:En,t.length=n→g x (cs++t)=some (cs++u x))→(∀x∈items,(u x).length=n)→
    (∀x∈items,ft (cs++u x)=some (b x,cs++u x))→(∀x∈items,b x=true→fe (cs++u x)=some (.d (y x),cs++u x))→acc.length+items.length≤1000000→
    ∃t',t'.length=n∧eH g ft fe items (cs++t) acc=some (acc++(items.filter b).map y,cs++t')
  | [],t,acc,h,_,_,_,_,_=>⟨t,h,by simp [eH]⟩
  | x::r,t,acc,h,hg,hu,h1,h2,hl=>by
    have h1x:=h1 x (by simp)
    unfold eH
    rw [hg x (by simp) t h]
    simp only [NF,h1x]
    cases hb:b x with
    | true=>
      simp only [if_true,h2 x (by simp) hb,NF,gO]
      rw [if_pos (by simp at hl;lia)]
      obtain⟨t',e1,ih⟩:=fL (b:=b) (y:=y) (u:=u) n r (u x) (acc++[y x]) (hu x (by simp)) (fun z hz=>hg z (by simp [hz])) (fun z hz=>hu z (by simp [hz])) (fun z hz=>h1 z (by simp [hz])) (fun z hz=>h2 z (by simp [hz])) (by simp at hl ⊢;lia)
      exact⟨t',e1,by rw [ih];simp [hb]⟩
    | false=>
      simp only [QG,if_false]
      obtain⟨t',e1,ih⟩:=fL (b:=b) (y:=y) (u:=u) n r (u x) acc (hu x (by simp)) (fun z hz=>hg z (by simp [hz])) (fun z hz=>hu z (by simp [hz])) (fun z hz=>h1 z (by simp [hz])) (fun z hz=>h2 z (by simp [hz])) (by simp at hl;lia)
      exact⟨t',e1,by rw [ih];simp [hb]⟩
theorem jV{nT:Nat}{fi:FI}{g:FG}{ft:FT}{fe:FE}{e e1 eo:En}{items out:List Nf}{own:iz}(h1:fi e=some (items,own,e1))(h3:eH g ft fe items (Nv nT none) []=some (out,eo)):b_ [] nT fi g ft fe e=some (.l out,e1):=by
  unfold b_
  rw [h1]
  simp only [NF]
  rw [if_pos (by simp),show rP [] nT e1=Nv nT none from rfl,h3]
  simp only [NF]
  rw [if_pos (by simp [iE])]
  congr 2
  refine Pj fun i=>?_
  rw [bI]
  match h:e1[i]? with
  | none=>rfl
  | some none=>rfl
  | some (some (.d x))=>rfl
  | some (some (.n x))=>rfl
  | some (some (.l x))=>rfl
noncomputable def nS(n:Int):Str:=Ni (toString n)
theorem BU:∀n:Fin 1001,(Ni (toString ((n.val:Nat):Int))).length≤4:=by decide+kernel
theorem EO{n:Int}(h0:0≤n)(h1:n≤1000):(nS n).length≤4:=by
  have:=BU ⟨n.toNat,by lia⟩
  rw [show(((⟨n.toNat,by lia⟩:Fin 1001).val:Nat):Int)=n by simp;lia] at this
  exact this
theorem qM(n:Int):NK (nS n)=true:=ax _
theorem EI{n:Int}(h0:0≤n)(h1:n≤1000):n.natAbs.log2 < 1900:=by
  have:=Nat.log2_le_self n.natAbs
  lia
theorem yU{e:En}{i:Int}(h0:0≤i)(h1:i≤1000):g1 gC e [.d (.int i)]=some (.d (.str (nS i))):=by
  simp only [g1,gC]
  rw [if_pos (EI h0 h1)];rfl
theorem yV{e:En}{x:Str}:g1 gC e [.d (.str x)]=some (.d (.str x)):=rfl
theorem nG{e:En}{a b:Str}(h:a.length+b.length≤1000000):g_ e (.d (.str a)) (.d (.str b))=some (.d (.str (a++b))):=by
  simp only [g_,bR,NF];rw [if_pos h]
theorem CG(a b:Str):(a++b).length=a.length+b.length:=strLen_append a b
theorem sum_le{ls:List Str}{k:Nat}(h:∀x∈ls,x.length≤k):(ls.map (·.length)).sum≤ls.length*k:=by
  induction ls with
  | nil=>simp
  | cons x r ih=>
    have h1:=h x (by simp)
    have h2:=ih fun y hy=>h y (by simp [hy])
    simp only [NP,List.sum_cons,OO,Nat.succ_mul]
    lia
section
variable{X:Cx}{K:Ng}{a:Nh}{fa:FE}{pos p pos2 p2:Pos}
end
section
variable{X:Cx}{K:Ng}{a:Nh}{fa:FE}
end
abbrev Rn:=List (Int × Bool)
def Bv(R:Rn):List Int:=R.map (·.1)
def Dc(W:aT)(R:Rn):List Int:=(R.filter (·.2)).flatMap fun r=>[(W.tie r.1).one,(W.tie r.1).other]
structure J_ (W:aT) (R:Rn) (asked taken:List Int):Prop where
  pa:asked.Perm (Bv R)
  pt:taken.Perm (Dc W R)
  inw:∀k∈Bv R,gU W k
  nd:(Bv R).Nodup
  nk:(Dc W R).Nodup
  bd:∀t:Int,0≤t→t < W.things→W.many (Bv R) t≤W.pat.getD t.toNat 0
  ak:(R.length:Int)≤W.asks
  sa:asked.Pairwise (· ≤·)
  st:taken.Pairwise (· ≤·)
section
variable{prog:Nl}{w:Nj}{A:Nn}{R:Result→Nc→Prop}
end
def F7(l:xM)(wi:TI)(g:TG)(tc:TT)(te:TE)(σ:L2.St)(H:Hp)(N:L2.St→Hp→Prop):Prop:=
  wi σ H fun J H1=>∃W:Nat→Nat→L2.St→Hp→Prop,(∃m,W 0 m σ H1)∧∀i m σ' H',W i m σ' H'→
    (J.stop i H'∧N σ' H')∨(J.go i H'∧∃N2:L2.St→Hp→Prop,(∀σ2 H2,N2 σ2 H2→∃m',m' < m∧W (i+1) m' σ2 H2)∧
      ∀x H2,J.yld i H' x H2→g x σ' H2 fun σ2 H3=>tc σ2 H3 fun b H4=>if b=true then te σ2 H4 fun v H5=>∃ys,H5 l=some (.lst ys)∧ys.length < Ny∧N2 σ2 (bw H5 l (.lst (ys++[v]))) else N2 σ2 H4)
structure Js (cp:List (Nat × Str)) (nT:Nat) (wi:TI) (g:TG) (tc:TT) (wi2:TI) (g2:TG) (tc2:TT) (te:TE) (σ:L2.St) (H:Hp) (Q:VK):Prop where
  go:wi σ H fun J H1=>∀l,H1 l=none→
  ∃W:Nat→Nat→L2.St→Hp→Prop,(∃m,W 0 m (i6 cp nT σ) (bw H1 l (.lst [])))∧∀i m σ' H',W i m σ' H'→
    (J.stop i H'∧Q (.ref l) H')∨(J.go i H'∧∃N:L2.St→Hp→Prop,(∀σ2 H2,N σ2 H2→∃m',m' < m∧W (i+1) m' σ2 H2)∧
      ∀x H2,J.yld i H' x H2→g x σ' H2 fun σ2 H3=>tc σ2 H3 fun b H4=>if b=true then F7 l wi2 g2 tc2 te σ2 H4 N else N σ2 H4)
section
variable{K:Ng}{F H:Hp}{σ:L2.St}{e:En}{cp:List (Nat × Str)}{nT:Nat}
end
section
variable{X:Cx}{K:Ng}{pos:Pos}
end
section
variable{X:Cx}{K:Ng}{pos:Pos}
variable{o:Nh}{fo:FE}{apos cpos:Pos}
end
section
variable{X:Cx}{K:Ng}
def Kj:List Int→Int
  | []=>0
  | x::r=>r.foldl max x
end
structure J5 (f:Fr):Prop where
  pos:0 < f.2
  cop:NB f.1 f.2=1
abbrev Pg:=List Int × Int
def Kk(t:lQ)(p:Pg):Bool:= !p.1.contains t.one&& !p.1.contains t.other
def Ja(t:lQ)(p:Pg):Pg:=(p.1++[t.one,t.other],p.2+t.worth)
def Ko(ps:List Pg)(t:lQ):List Pg:=ps++(ps.filter (Kk t)).map (Ja t)
def Kl(ts:List lQ):List Pg:=ts.foldl Ko [([],0)]
structure JK (k:Nat) (ps:List Pg):Prop where
  ne:ps≠[]
  len:ps.length≤2 ^ k
  pt:∀p∈ps,p.1.length≤2*k∧0≤p.2∧p.2≤1000*(k:Int)
def JP(ts:List lQ):Int:=Kj ((Kl ts).map (·.2))
theorem uO{cp:List (Nat × Str)}{nT:Nat}{fi:FI}{g:FG}{ft:FT}{fe:FE}{e e1 eo:En}{items out:List Nf}{own:iz}(h1:fi e=some (items,own,e1))(ho:(own.all fun q=> !(cp.any fun c=>c.1==q.1))=true)(h3:eH g ft fe items (rP cp nT e1) []=some (out,eo))(h4:(cp.all fun p=> !wB e1[p.1]?)=true):b_ cp nT fi g ft fe e=some (.l out,e1):=by
  unfold b_
  rw [h1]
  simp only [NF]
  rw [if_pos ho,h3]
  simp only [NF]
  have hb:iE cp eo e1=true:=by
    unfold iE
    rw [NV] at h4 ⊢
    intro p hp
    rw [h4 p hp];rfl
  rw [if_pos hb]
  congr 2
  refine Pj fun i=>?_
  rw [bI]
  match hi:e1[i]? with
  | none=>rfl
  | some none=>rfl
  | some (some (.d x))=>rfl
  | some (some (.n x))=>rfl
  | some (some (.l x))=>
    cases hp:md cp i with
    | none=>simp [hp]
    | some k=>
      obtain⟨s,hs⟩:=em hp
      have:=NV.mp h4 _ (Nb hs)
      simp [hi,wB] at this
section
variable{prog:Nl}{w:Nj}{A:Nn}{E:Kz→Nc→Prop}{s:Nc}
end
section
variable{X:Cx}{a:Nh}{ta:TA}{p p2 pos pos2:Pos}
variable{K:Ng}{fs:FA}{p3:Pos}
end
def GR(lo hi:Int):Nf→Bool
  | .int i=>decide (lo≤i)&&decide (i≤hi)
  | _=>false
def uniq(many:Int):List Int→List Nf→Bool
  | _,[]=>true
  | pre,.int i::r=>GR 0 (many - 1) (.int i)&&(!pre.contains i&&uniq many (pre++[i]) r)
  | _,_::_=>false
mutual
def wt:Nf→Nat
  | .list xs=>AZ xs+1
  | .tuple xs=>AZ xs+1
  | .dict _=>1
  | .none=>1
  | .bool _=>1
  | .int _=>1
  | .str _=>1
def AZ:List Nf→Nat
  | []=>0
  | x::r=>wt x+AZ r
end
structure Ks (d:Nf) (k:Nat):Prop where
  lay:d.canLay0=true
  sh:d.showable=true
  dp:d.depth≤k
  ln:d.shown.length+2≤104*wt d
  so:NK d.shown=true
theorem yN{e:En}{xs:List Nf}{neg:Bool}(hs:NQ (.tuple xs)=true):bh neg e (.d (.tuple xs)) (.d (.tuple []))=some (.d (.bool (if neg then !xs.isEmpty else xs.isEmpty))):=by
  unfold bh
  simp only [gE,NF,hs]
  have h0:NQ (.tuple [])=true:=by simp [NQ,Oa,OG,Ot,OW]
  rw [h0]
  cases xs<;>simp [OH,PyData.eqvAll]
section
variable{X:Cx}{K:Ng}
variable{a b:Nh}{fa fb:FE}{pos:Pos}
end
def tx(s:Str):List Nat:=s.cps.toList
section
variable{X:Cx}{K:Ng}{es:List Nh}{k0:Nat}{tp:Pos}{a b:Nh}{fs:FA}{p pos:Pos}
end
def Kh(x:Nd)(b:Bool):Int:=if b=true then x.yes else x.no
def Dq(T:List Nd)(i:Nat)(b:Bool):Int:=match T[i]? with
  | some x=>Kh x b
  | none=> -1
def IX(T:List Nd):Prop:=∀(i j:Nat) (a b:Bool),Dq T i a=Dq T j b→Dq T i a≠ -1→i=j∧a=b
def JD(w:Wt):Int × Int:=(w.par,w.side)
structure Ky (T:List Nd) (ws:List Wt):Prop where
  unq:IX T
  rng:∀i a,Dq T i a= -1∨(0 < Dq T i a∧Dq T i a < (T.length:Int))
  free:∀w∈ws,w.par= -1∨(0≤w.par∧w.par < (T.length:Int)∧Dq T w.par.toNat (w.side==0)= -1)
  dst:(ws.map JD).Nodup
  side:∀w∈ws,w.side=0∨w.side=1
structure KF (T:List Nd) (w0 ws order:List Int):Prop where
  nd:(order++ws).Nodup
  par:∀v∈order++ws,v=0∨∃u∈order,∃b,Dq T u.toNat b=v∧v≠ -1
  fst:(order=[]∧ws=w0)∨order[0]?=some 0
section
variable{prog:Nl}{w:Nj}{A:Nn}{E:Kz→Nc→Prop}{s:Nc}
end
section
variable{X:Cx}{tg a:Nh}{ta:TA}{p pos:Pos}
end
section
variable{X:Cx}{K:Ng}{σ:L2.St}{tg a:Nh}{fs:FA}{p pos:Pos}
end
section
variable{X:Cx}{a k:Nh}{p2 pos:Pos}{fa fk:FE}{K:Ng}
section
variable{prog:Nl}{w:Nj}{A:Nn}{E:Kz→Nc→Prop}{s:Nc}
end
end
section
variable{X:Cx}{a b:Nh}{ta:TA}{p p2 pos pos2:Pos}{K:Ng}{fs:FA}
end
section
variable{X:Cx}{o i e:Nh}{fo fi:FE}{tpos pos:Pos}{K:Ng}
end
section
variable{X:Cx}{o i e:Nh}{fo fi fv:FE}{tpos pos:Pos}{K:Ng}
end
section
variable{X:Cx}{K:Ng}
end
section
open PySem.MeetsSeq2 PySem.AutoSeq1 PySem.SeqAt
end
section
variable{X:Cx}{K:Ng}{o a:Nh}{to te:TE}{name:Str}{apos cpos:Pos}{T id:String}{r:V→List V→Hp→VK→Prop}{fo fa:FE}
end
section
variable{X:Cx}{K:Ng}{o a:Nh}{apos cpos:Pos}{fo fa:FE}
end
section
variable{K:Ng}{F H:Hp}{σ:L2.St}{e:En}{cp:List (Nat × Str)}{nT:Nat}
end
section
variable{X:Cx}{K:Ng}{a b:Nh}{es:List Nh}{fa fb:FE}{fs:FA}{pos p p2 p3:Pos}{lo hi:Option Nh}
end
section
variable{X:Cx}{K:Ng}
end
section
variable{X:Cx}{K:Ng}{a b:Nh}{fa fb:FE}{pos:Pos}
end
section
variable{X:Cx}{K:Ng}
end
structure Sw (b:Bool) (n dep:Nat) (d:Nf):Prop where
  dl:bif b then zy d=true else d.hasDict=false
  sh:d.showable=true
  dp:d.depth≤dep
  ln:d.shown.length+2≤n
  so:NK d.shown=true
structure S1 (n:Nat) (f:Fr):Prop where
  low:J5 f
  lo:0≤f.1
  hi:f.1≤f.2
  bt:Bt n f.2
def Kg(e:Int)(t:lQ):Bool:=t.one==e || t.other==e
structure KG (b f g:Fr):Prop where
  pf:0 < f.2
  pg:0 < g.2
  eq:g.1*(f.2*b.1)=g.2*(f.1*b.2)
structure KC (O:aT) (ss ws:List Std):Prop where
  len:ss.length=ws.length
  at':∀j,(ss.getD j ([],[])).1=(ws.getD j ([],[])).1∧(ss.getD j ([],[])).2.length≤2*(ss.getD j ([],[])).1.length∧∀k∈(ss.getD j ([],[])).1,gU O k
structure Kw (O:aT) (T:List Nd):Prop where
  tie:∀(i:Nat) (x:Nd),T[i]?=some x→gU O x.tie
  lk:∀(i:Nat) (x:Nd),T[i]?=some x→(-1≤x.yes∧x.yes < (T.length:Int))∧(-1≤x.no∧x.no < (T.length:Int))
section
variable{K:Ng}
variable{X:Cx}{σ:L2.St}{H0 H:Hp}{e:En}
end
section
variable{X:Cx}{a b:Nh}{ta:TA}{p p2 pos pos2:Pos}
end
section
variable{X:Cx}{K:Ng}{fs:FA}{a b:Nh}{p p2 pos pos2:Pos}
end
theorem bB:∀(names:List (Str × Oj)) (n:Nat) (acc:List (Str × xM)),NO n names acc=NO n names []++acc
  | [],_,_=>rfl
  | (x,k)::r,n,acc=>by
    unfold NO
    split
    · rw [bB r (n+1) ((x,n)::acc),bB r (n+1) [(x,n)],List.append_assoc];rfl
    · exact bB r n acc
theorem iG:∀(names:List (Str × Oj)) (n:Nat) (x:Str) (c:xM),(NO n names []).lookup x=some c→∃y∈names,y.1=x∧y.2=.cell
  | [],_,_,_,h=>by simp [NO] at h
  | (z,k)::r,n,x,c,h=>by
    unfold NO at h
    split at h
    · rename_i hk
      rw [bB,Ql] at h
      cases q:(NO (n+1) r []).lookup x with
      | some d=>
        obtain⟨y,hy,e⟩:=iG r _ x d q
        exact⟨y,Ow _ hy,e⟩
      | none=>
        rw [q] at h
        have h':Od x [(z,n)]=some c:=h
        rw [NU] at h'
        cases hx:x==z with
        | true=>exact⟨(z,k),OZ,(by simpa using hx:x=z).symm,by simpa using hk⟩
        | false=>rw [hx] at h';simp at h'
    · obtain⟨y,hy,e⟩:=iG r n x c h
      exact⟨y,Ow _ hy,e⟩
theorem gN:∀(names:List (Str × Oj)) (n:Nat) (x:Str),(∃y∈names,y.1=x∧y.2=.cell)→∃c,(NO n names []).lookup x=some c
  | [],_,_,⟨_,h,_⟩=>by cases h
  | (z,k)::r,n,x,⟨y,hy,e1,e2⟩=>by
    unfold NO
    split
    · rename_i hk
      rw [bB,Ql]
      cases q:(NO (n+1) r []).lookup x with
      | some d=>exact⟨d,rfl⟩
      | none=>
        rcases Na hy with w | w
        · subst w;subst e1;exact⟨n,by simp [NU]⟩
        · obtain⟨c,hc⟩:=gN r (n+1) x ⟨y,w,e1,e2⟩
          rw [q] at hc;cases hc
    · rename_i hk
      rcases Na hy with w | w
      · subst w;exact absurd (by simpa using e2) hk
      · exact gN r n x ⟨y,w,e1,e2⟩
theorem qu{env:Env}:∀(names:List (Str × Oj)) (cs:List (Str × xM)) (x:Str),(¬∃y∈names,y.1=x∧y.2=.free)→cs.lookup x=none→(iH env names cs).lookup x=none
  | [],_,_,_,h=>h
  | (n,k)::r,cs,x,hn,hcs=>by
    refine qu r _ x (fun⟨y,hy,z⟩=>hn ⟨y,Ow _ hy,z⟩) ?_
    by_cases hk:(k==Oz)=true
    · rw [if_pos hk,NU]
      cases hx:x==n with
      | true=>exact absurd ⟨(n,k),OZ,(by simpa using hx:x=n).symm,by simpa using hk⟩ hn
      | false=>exact hcs
    · rw [if_neg hk];exact hcs
theorem pk{env:Env}:∀{names:List (Str × Oj)} {x:Str},(names.map fun(n,k)=>if (k==Oz&&env.scope.kind==.function&&env.kindOf n==some .cell) then(n,PH) else(n,k)).lookup x=some .cell∨
    (names.map fun(n,k)=>if (k==Oz&&env.scope.kind==.function&&env.kindOf n==some .cell) then(n,PH) else(n,k)).lookup x=some .free→∃y∈names,y.1=x∧(y.2=.free∨y.2=.cell)
  | [],x,h=>by simp at h
  | (n,k)::r,x,h=>by
    have ih:=@pk env r x
    rw [NP] at h
    cases hx:x==n with
    | true=>
      have e1:x=n:=by simpa using hx
      subst e1
      refine⟨(x,k),OZ,rfl,?_⟩
      by_cases q:(k==Oz&&env.scope.kind==.function&&env.kindOf x==some .cell)=true
      · simp only [Ol,beq_iff_eq] at q;exact .inl q.1.1
      · simp only [q,QG,if_false,NU,beq_self_eq_true,Pv] at h
        exact h.symm
    | false=>
      have e2:∀(l:List (Str × Oj)),((if (k==Oz&&env.scope.kind==.function&&env.kindOf n==some .cell)=true then(n,PH) else(n,k))::l).lookup x=l.lookup x:=fun l=>by
        split<;>simp [NU,hx]
      simp only [e2] at h
      obtain⟨y,hy,z⟩:=ih h
      exact⟨y,Ow _ hy,z⟩
theorem BV{M:Model}{A:Nn}{E:Kz→Nc→Prop}{s:Nc}{scope:NL}{globals:xM}{closure:List (Str × xM)}{qual:Str}{func:Option xM}{code:Kz}{env:Env}{builtins:xM}{Q:Env→Nc→Prop}
    (hQ:∀h',h'.Ns s.heap.objs.size (fun _=>none)→(∀b o,s.heap.get? b=some o→h'.get? b=some o)→
      (∀n c,(NO (s.heap.objs.size+1) scope.names []).lookup n=some c→h'.IsCell c none∧s.heap.objs.size+1≤c)→((NO (s.heap.objs.size+1) scope.names []).Pairwise fun x y=>x.2≠y.2)→
      Q (newEnv scope s.heap.objs.size globals (NO (s.heap.objs.size+1) scope.names closure) qual func code (some env) builtins) {s with heap:=h'}):
    Np M A (newFunctionEnv scope globals closure [] qual func code (some env) builtins) Q E s:=by
  simp only [newFunctionEnv,Option.isSome_some,if_true]
  refine Nu (wpAny_alloc ?_)
  refine Nu (wpAny_layCells _ (fun name kind cells=>by cases hkc:kind==PH<;>simp [hkc]) _ _ _ _ ?_)
  have ok:=cellsFrom_ok scope.names (s.heap.push {cls:=.type "dict",data:=.dict #[]}) (s.heap.objs.size+1) [] ⟨fun _ _ hm=>(nomatch hm),List.Pairwise.nil⟩ (by rw [Qe];exact NA _)
  rw [Qe] at ok
  rw [show({s with heap:=s.heap.push {cls:=.type "dict",data:=.dict #[]}}:Nc).heap.objs.size=s.heap.objs.size+1 from Qe ..]
  refine Nu ?_
  rw [List.forIn_nil]
  refine Nz (Nz ?_)
  exact hQ _ ((Heap.Ns.new s.heap (.type "dict")).keeps (pushCells_keeps _ _)) (fun b o e=>pushCells_keeps _ _ b o (NS _ e)) (fun n c e=>ok.empty n c (mem_of_lookup e)) ok.apart
def be(X:Cx)(scope:NL)(cp:List (Nat × Str))(tgN:List Str)(C:xM)(s0:Nc)(H0:Hp)(fp:List xM):Cx where
  prog:=X.prog
  w:=X.w
  K:=X.K
  mg:=X.mg
  base:=X.base
  A:=X.A
  N:=cp.map (·.2)++tgN
  s₀:=s0
  H₀:=H0
  env:=compEnvC scope (NO (C+1) scope.names (iH X.env scope.names [])) C X.env
  outer:=X.stack
  stack:=X.stack
  ex:=fp
  fn:=fun x=>scope.names.lookup x==some .local || scope.names.lookup x==some .cell
  calm:=X.calm
  pn:=[]
  xe:=fun _ _=>False
theorem xu{X:Cx}{scope:NL}{sc0:NL}{N0:List Str}{cp:List (Nat × Str)}{tgN:List Str}{pins:List (xM × Obj)}{σ:L2.St}{H3:Hp}{s₃:Nc}{C:xM}{h₁:Nk}{fp:List xM}(hsc:X.env.scope=sc0)(hN0:X.N=N0)
    (hk:scope.kind=.function)(hown:∀y∈scope.names,y.2=.cell→scope.names.lookup y.1=some .cell)
    (hfr:∀y∈scope.names,y.2=.free→scope.names.lookup y.1=some .free∧sc0.names.lookup y.1=some .cell)
    (hcp:∀p∈cp,N0[p.1]?=some p.2)(hcq:∀p∈cp,sc0.names.lookup p.2=some .cell∧scope.names.lookup p.2=some .free)
    (I3:aH X pins σ H3 s₃)(f3:∀b∈fp,nQ X pins H3 b)(hob:∀b∈fp,∃o,s₃.heap.get? b=some o)(hC:s₃.heap.objs.size=C)(hns₁:h₁.Ns C (fun _=>none))(old:∀b o,s₃.heap.get? b=some o→h₁.get? b=some o)
    (hownC:∀n c,(NO (C+1) scope.names []).lookup n=some c→h₁.IsCell c none∧C+1≤c)(apC:(NO (C+1) scope.names []).Pairwise fun x y=>x.2≠y.2):
    (be X scope cp tgN C s₃ H3 fp).Ok∧aH (be X scope cp tgN C s₃ H3 fp) [] (i6 cp tgN.length σ) H3 {s₃ with heap:=h₁}:=by
  have hkind:∀x,X.env.kindOf x=sc0.names.lookup x:=fun x=>by unfold Env.kindOf;rw [hsc]
  have hfree:∀y∈scope.names,y.2=.free→∃c,X.env.cells.lookup y.1=some c:=fun y hy e=>I3.ok.has y.1 (.inl (by rw [hkind];exact(hfr y hy e).2))
  have nC:∀b o,s₃.heap.get? b=some o→b≠C:=fun b o e=>by rw [←hC];exact Oq (NG e)
  have hHC:H3 C=none:=I3.hok.fresh (by rw [hC];exact NA _)
  have clS:∀x c,(iH X.env scope.names []).lookup x=some c→X.env.cells.lookup x=some c:=fun x c e=>n_ _ _ x c hfree (fun _ _ z=>by simp at z) e
  have clH:∀x,(∃y∈scope.names,y.1=x∧y.2=.free)→∃c,(iH X.env scope.names []).lookup x=some c:=fun x e=>tI _ _ x (.inl e)
  have clN:∀x,(¬∃y∈scope.names,y.1=x∧y.2=.free)→(iH X.env scope.names []).lookup x=none:=fun x q=>qu _ _ x q rfl
  have Bd:∀x c,(NO (C+1) scope.names (iH X.env scope.names [])).lookup x=some c→(NO (C+1) scope.names []).lookup x=some c∨(iH X.env scope.names []).lookup x=some c:=fun x c e=>by
    rw [bB,Ql] at e
    cases q:(NO (C+1) scope.names []).lookup x with
    | some d=>rw [q] at e;exact .inl e
    | none=>rw [q] at e;exact .inr e
  have ltC:∀x c,(iH X.env scope.names []).lookup x=some c→c < C:=fun x c e=>by
    obtain⟨v,o,ho,_⟩:=I3.cell x c (clS x c e)
    rw [←hC];exact NG ho
  have clF:∀x,(∃y∈scope.names,y.1=x∧y.2=.free)→(NO (C+1) scope.names (iH X.env scope.names [])).lookup x=(iH X.env scope.names []).lookup x:=fun x ⟨y,hy,e1,e2⟩=>by
    rw [bB,Ql]
    cases q:(NO (C+1) scope.names []).lookup x with
    | none=>rfl
    | some d=>
      exfalso
      obtain⟨z,hz,z1,z2⟩:=iG scope.names _ x d q
      have a1:=hown z hz z2
      have a2:=(hfr y hy e2).1
      rw [z1] at a1;rw [e1,a1] at a2;cases a2
  have hasC:∀x,(∃y∈scope.names,y.1=x∧(y.2=.free∨y.2=.cell))→∃c,(NO (C+1) scope.names (iH X.env scope.names [])).lookup x=some c:=fun x ⟨y,hy,e1,e2⟩=>by
    rcases e2 with e2 | e2
    · rw [clF x ⟨y,hy,e1,e2⟩];exact clH x ⟨y,hy,e1,e2⟩
    · rw [bB,Ql]
      obtain⟨c,hc⟩:=gN scope.names (C+1) x ⟨y,hy,e1,e2⟩
      exact⟨c,by rw [hc];rfl⟩
  have ok':(be X scope cp tgN C s₃ H3 fp).Ok:=by
    refine⟨I3.ok.mod,hk,I3.ok.glob,I3.ok.blt,by rw [←hC];exact NA _,fun x y c e1 e2=>?_,fun x e=>hasC x (pk e),fun x c e1 e2=>?_,I3.ok.hd,I3.ok.frames,.inl rfl,fun b hb=>?_,fun b o e=>I3.bs b o e,?_,fun b o e hb=>?_,fun b hb z=>?_,I3.stack,fun b hb=>I3.stkFree b hb⟩
    · rcases Bd x c e1 with e1 | e1<;>rcases Bd y c e2 with e2 | e2
      · exact name_of_addr apC (mem_of_lookup e1) (mem_of_lookup e2)
      · exact(Ph _ (Nat.lt_trans (ltC y c e2) (hownC x c e1).2)).elim
      · exact(Ph _ (Nat.lt_trans (ltC x c e1) (hownC y c e2).2)).elim
      · exact I3.ok.inj x y c (clS _ _ e1) (clS _ _ e2)
    · rcases Bd x c e2 with e2 | e2
      · show s₃.heap.objs.size≤c
        rw [hC];exact Nat.le_of_succ_le (hownC x c e2).2
      · exfalso
        have e1':scope.names.lookup x=some .local∨scope.names.lookup x=some .cell:=by simpa [be] using e1
        by_cases q:∃y∈scope.names,y.1=x∧y.2=.free
        · obtain⟨y,hy,y1,y2⟩:=q
          have z:=(hfr y hy y2).1
          rw [y1] at z
          rcases e1' with w | w<;>(rw [z] at w;cases w)
        · rw [clN x q] at e2;cases e2
    · obtain⟨f0,f1,f4,f5,f6,f7⟩:=f3 b hb
      obtain⟨o,ho⟩:=hob b hb
      exact⟨nC b o ho,fun x c e=>(Bd x c e).elim (fun e z=>absurd (hownC x c e).2 (by rw [z,←hC];exact Nat.not_le.mpr (Nat.lt_succ_of_lt (NG ho)))) (fun e=>f6 x c (clS x c e))⟩
    · exact NR I3.ok.bsz I3.sz
    · obtain⟨f0,f1,f4,f5,f6,f7⟩:=f3 b hb
      rcases f5 with z | z
      · exact I3.ok.noex b o e z
      · have:=(I3.ok.bs b o e).1
        exact absurd (Oe (NG this) z) (Ph _)
    · obtain⟨f0,f1,f4,f5,f6,f7⟩:=f3 b hb
      rcases Na (I3.stkSub b z) with z | z
      · exact f1 z
      · exact f4 z
  have I4:aH (be X scope cp tgN C s₃ H3 fp) [] (i6 cp tgN.length σ) H3 {s₃ with heap:=h₁}:=by
    refine⟨ok',rfl,I3.bare,Un.kept old,⟨_,hns₁,fun i x v e1 e2 e3=>?_⟩,fun x c e=>?_,hHC,fun x c e=>(Bd x c e).elim (fun e=>I3.hok.fresh (by rw [hC];exact Nat.le_of_succ_le (hownC x c e).2)) (fun e=>I3.freeC x c (clS x c e)),fun p hp=>by simp [be] at hp,I3.hok.kept old,by simp [i6,be]⟩
    · have hlt:i < cp.length:=by
        by_cases q:i < cp.length
        · exact q
        · exfalso
          unfold i6 at e2
          rw [List.getElem?_append_right (by simp;lia)] at e2
          rw [QV] at e2
          split at e2<;>cases e2
      have e1':(cp.map (·.2))[i]?=some x:=by
        have e1'':(cp.map (·.2)++tgN)[i]?=some x:=e1
        rwa [OV (by simp;exact hlt)] at e1''
      have e2':(cp.map (fun p=>(σ[p.1]?).join))[i]?=some (some v):=by
        unfold i6 at e2
        rwa [OV (by simp;exact hlt)] at e2
      rw [NT,OF hlt] at e1' e2'
      have ex:(cp[i]).2=x:=by simpa using e1'
      have ev:(σ[(cp[i]).1]?).join=some v:=by simpa using e2'
      have ev':σ[(cp[i]).1]?=some (some v):=by
        cases q:σ[(cp[i]).1]? with
        | none=>rw [q] at ev;cases ev
        | some z=>rw [q] at ev;simp only [Option.join_some] at ev;rw [ev]
      have hN:=hcp cp[i] (QI hlt)
      rw [←hN0] at hN
      obtain⟨hcl,hcf⟩:=hcq cp[i] (QI hlt)
      rw [ex] at hN hcl hcf
      obtain⟨m,hn,hl⟩:=I3.loc
      obtain⟨u,r,l⟩:=hl _ x v hN ev' (.inr (.inl (by rw [hsc];exact hcl)))
      refine⟨u,r,.inr ?_⟩
      rcases l with ⟨k1,_⟩ | ⟨k1,c,hcc,o,ho,hd⟩
      · rw [hkind,hcl] at k1;cases k1
      · have e3':(relabel scope X.env).names.lookup x=some .local∨(relabel scope X.env).names.lookup x=some .cell∨(relabel scope X.env).names.lookup x=some .free:=e3
        have nl:(relabel scope X.env).names.lookup x=some .cell∨(relabel scope X.env).names.lookup x=some .free:=by
          rcases e3' with z | z | z
          · exact absurd z (i_ hcf)
          · exact .inl z
          · exact .inr z
        have fr:∃y∈scope.names,y.1=x∧y.2=.free:=⟨(x,.free),mem_of_lookup hcf,rfl,rfl⟩
        obtain⟨c',hc'⟩:=clH x fr
        have:=clS x c' hc'
        rw [hcc] at this;cases this
        exact⟨nl,c,(clF x fr).trans hc',o,old c o ho,hd⟩
    · rcases Bd x c e with e | e
      · exact⟨none,(hownC x c e).1⟩
      · obtain⟨v,o,ho,hd⟩:=I3.cell x c (clS x c e)
        exact⟨v,o,old c o ho,hd⟩
  exact⟨ok',I4⟩
theorem xw{X:Cx}{scope:NL}{cp:List (Nat × Str)}{tgN:List Str}{pins:List (xM × Obj)}{σ σ5:L2.St}{H3 H5:Hp}{s₃ s6:Nc}{C:xM}{fp:List xM}(I3:aH X pins σ H3 s₃)(f3:∀b∈fp,nQ X pins H3 b)(nC:∀b o,s₃.heap.get? b=some o→b≠C)
    (I6:aH (be X scope cp tgN C s₃ H3 fp) [] σ5 H5 s6)(h':Nk)(sb:PQ C s6.heap h'):aH X pins σ H5 {s6 with heap:=h'}:=by
  have ub:=I6.base
  have kp:∀b u,b≠C→s6.heap.get? b=some u→h'.get? b=some u:=fun b u ne e=>sb.extBut b u ne e
  have nit:∀b u,H5 b=some u→b≠C:=fun b u e z=>by
    have:=I6.free
    rw [z] at e
    rw [show H5 C=none from this] at e;cases e
  refine I3.call' (s':={s6 with heap:=h'}) (ch:=fp) I6.os ⟨fun b o e n hb hx=>kp b o (nC b o e) (ub.keep b o e n hb hx),fun b o e n hb hx=>?_,ub.free,fun b o e hx=>?_,ub.tups,ub.frzs,ub.tbls⟩ (fun b u e=>?_) I6.bare (fun b hb=>?_)
  · obtain⟨sl,q⟩:=ub.slot b o e n hb hx
    exact⟨sl,kp b _ (nC b o e) q⟩
  · obtain⟨o',q⟩:=ub.there b o e hx
    exact⟨o',kp b _ (nC b o e) q⟩
  · refine(I6.hok b u e).stay (fun c v hc q=>kp c v ?_ q) (fun _ q=>q) fun _ _ q=>q
    rcases hc with z | z
    · rw [z];exact nit b u e
    · exact nit c _ z
  · obtain⟨f0,f1,f4,f5,f6,f7⟩:=f3 b hb
    exact⟨f5,f1,f6,f7⟩
theorem yG{X:Cx}{use:Option (Kz→Sem Unit)}{RR:Kz→Nc→Prop}{pins:List (xM × Obj)}{s:Nc}{σ:L2.St}{H:Hp}{Q:VK}{elt iter tg:Nh}{ifs:List Nh}{scope:NL}{pos:Pos}{wi:TI}{g:TG}{tc:TT}{te:TE}(sc0:NL)(N0:List Str)(cp:List (Nat × Str))(tgN:List Str)
    (hc:X.calm=true)(hsc:X.env.scope=sc0)(hN0:X.N=N0)(hi:PI X tg iter wi)
    (hg:∀C s0 H0 fp,PG (be X scope cp tgN C s0 H0 fp) tg g)
    (ht:∀C s0 H0 fp,A0 (be X scope cp tgN C s0 H0 fp) ifs tc)
    (he:∀C s0 H0 fp,PE (be X scope cp tgN C s0 H0 fp) elt te)
    (hk:scope.kind=.function)(hown:∀y∈scope.names,y.2=.cell→scope.names.lookup y.1=some .cell)(hnames:∀y∈scope.names,y.2=.local→scope.names.lookup y.1=some .local)
    (hfr:∀y∈scope.names,y.2=.free→scope.names.lookup y.1=some .free∧sc0.names.lookup y.1=some .cell)
    (hcp:∀p∈cp,N0[p.1]?=some p.2)(hcq:∀p∈cp,sc0.names.lookup p.2=some .cell∧scope.names.lookup p.2=some .free)
    (hs:∀x,PR iter X.env x=pure x)(I:aH X pins σ H s)(h:AH cp tgN.length wi g tc te σ H Q)
    (fin:∀(C D:xM) (H5:Hp) (s6:Nc),(∃m,s6.heap.Ns C m)→Q (.ref D) H5→nQ X pins H5 C→(∀h',PQ C s6.heap h'→aH X pins σ H5 {s6 with heap:=h'})→compPost (Nr X.prog X.w) X.A X.xe use RR (.ref D) C (.ok .next) s6):
    Np (Nr X.prog X.w) X.A (comprehension (.ListComp elt [⟨tg,iter,ifs,0⟩] scope pos) scope X.env (firstIterPos [⟨tg,iter,ifs,0⟩] pos) (newList []) (firstAsync [⟨tg,iter,ifs,0⟩]) (firstIter [⟨tg,iter,ifs,0⟩] X.env) use) RR X.xe s:=by
  have hkind:∀x,X.env.kindOf x=sc0.names.lookup x:=fun x=>by unfold Env.kindOf;rw [hsc]
  have hfree:∀y∈scope.names,y.2=.free→∃c,X.env.cells.lookup y.1=some c:=fun y hy e=>I.ok.has y.1 (.inl (by rw [hkind];exact(hfr y hy e).2))
  refine wpAny_comprehension_free (use:=use) rfl hs (vc hfree) hk hnames (OB (hi pins s σ H _ I h.go) (fun xv s₁ h₁=>OB h₁ (fun itv s₂ h₂=>?_) fun _ _ e=>e) fun _ _ e=>e)
  obtain⟨it,fp,tn,J,H2,rfl,I2,T,st2,f2,hq⟩:=h₂
  refine Px ?_
  have hlF:H2 s₂.heap.objs.size=none:=I2.hok.fresh (NA _)
  have I3:aH X pins σ (bw H2 s₂.heap.objs.size (.lst [])) {s₂ with heap:=s₂.heap.push {cls:=.type "list",data:=.seq ([]:List Kz).toArray}}:=I2.lnew (t':=s₂.toks) .nil (OS _)
  obtain⟨W,⟨m0,w0⟩,turn⟩:=hq _ hlF
  have f3:∀b∈fp,nQ X pins (bw H2 s₂.heap.objs.size (.lst [])) b:=fun b hb=>by
    obtain⟨f0,fr⟩:=f2 b hb
    obtain⟨o,ho,_⟩:=T.obj _ _ st2 b hb
    exact⟨by rw [av (Oq (NG ho))];exact f0,fr⟩
  have st3:tn 0 (s₂.heap.push {cls:=.type "list",data:=.seq ([]:List Kz).toArray}):=T.keep _ _ _ st2 fun b _ o e=>NS _ e
  generalize hD:s₂.heap.objs.size=D at*
  generalize hs3:({s₂ with heap:=s₂.heap.push {cls:=.type "list",data:=.seq ([]:List Kz).toArray}}:Nc)=s₃ at*
  have hst3:tn 0 s₃.heap:=by rw [←hs3];exact st3
  refine BV (fun h₁ hns₁ old hownC apC=>?_)
  generalize hC:s₃.heap.objs.size=C at*
  have nC:∀b o,s₃.heap.get? b=some o→b≠C:=fun b o e=>by rw [←hC];exact Oq (NG e)
  obtain⟨ok',I4⟩:=xu (cp:=cp) (tgN:=tgN) hsc hN0 hk hown hfr hcp hcq I3 f3 (fun b hb=>let ⟨o,e,_⟩:=T.obj _ _ hst3 b hb;⟨o,e⟩) hC hns₁ old hownC apC
  have hst4:tn 0 h₁:=T.keep _ _ _ hst3 fun b _ o e=>old b o e
  have loop:codeAny (Nr X.prog X.w) X.A (.compLoop (.ListComp elt [⟨tg,iter,ifs,0⟩] scope pos) 0 (.ref it) (.ref D) (compEnvC scope (NO (C+1) scope.names (iH X.env scope.names [])) C X.env))
      (compPost (Nr X.prog X.w) X.A X.xe use RR (.ref D) C) {s₃ with heap:=h₁}:=by
    refine rE (fun n s'=>∃i σ' H',aH (be X scope cp tgN C s₃ (bw H2 D (.lst [])) fp) [] σ' H' s'∧tn i s'.heap∧(∀b∈fp,H' b=none)∧W i n σ' H') ?_ (n0:=m0) ⟨0,_,_,I4,hst4,fun b hb=>(f3 b hb).1,w0⟩
    rintro n s5 ⟨i,σ5,H5,I5,st5,fr5,w5⟩
    have stat:∀{H':Hp},(∀b∈fp,H' b=none)→∀b∈fp,nQ (be X scope cp tgN C s₃ (bw H2 D (.lst [])) fp) [] H' b:=fun hn b hb=>
      ⟨hn b hb,(ok'.exf b hb).1,ok'.exfs b hb,.inl hb,(ok'.exf b hb).2,fun p hp=>by simp [be] at hp⟩
    rcases turn i n σ5 H5 w5 with ⟨stop,qn⟩ | ⟨go,N,hN,step⟩
    · refine cA (T.done (be X scope cp tgN C s₃ (bw H2 D (.lst [])) fp) rfl rfl rfl hc i [] s5 σ5 H5 (fun _ _=>False) I5 (stat fr5) st5 stop) fun r s6 ⟨hr,I6⟩=>?_
      subst hr
      refine⟨fun _=>?_,fun v z=>by cases z⟩
      obtain⟨m,hn,_⟩:=I6.loc
      exact fin C D H5 s6 ⟨m,hn⟩ qn (I3.fpOk (by rw [hC];exact NA _) I6.free) (xw I3 f3 nC I6)
    · refine cA (T.item (be X scope cp tgN C s₃ (bw H2 D (.lst [])) fp) rfl rfl rfl hc i [] s5 σ5 H5 (fun _ _=>False) I5 (stat fr5) st5 go) fun r s6 ⟨u,hr,h6⟩=>?_
      subst hr
      refine⟨fun z=>(by cases z),fun v z=>?_⟩
      cases z
      refine cA h6 fun _ s7 ⟨x,H7,I7,r7,y7,st7,fr7⟩=>?_
      have I7':=I7.pinned (stat fr7) (T.obj _ _ st7)
      have again:∀{σ8:L2.St} {H8:Hp} {s8:Nc},aH (be X scope cp tgN C s₃ (bw H2 D (.lst [])) fp) ([]++o8 fp s7.heap) σ8 H8 s8→N σ8 H8→∃m,m < n∧∃i σ' H',aH (be X scope cp tgN C s₃ (bw H2 D (.lst [])) fp) [] σ' H' s8∧tn i s8.heap∧(∀b∈fp,H' b=none)∧W i m σ' H':=fun{σ8 H8 s8} I8 n8=>by
        obtain⟨m',hm,w8⟩:=hN σ8 H8 n8
        refine⟨m',hm,i+1,σ8,H8,I8.unpinned,T.keep _ _ _ st7 fun b hb o e=>(I8.pin (b,o) (Pb _ (Pb _ (iV hb e)))).1,fun b hb=>?_,w8⟩
        obtain⟨o,e,d⟩:=T.obj _ _ st7 b hb
        exact(I8.pin (b,o) (Pb _ (Pb _ (iV hb e)))).2.1
      refine cA (hg C s₃ (bw H2 D (.lst [])) fp _ s7 σ5 H7 x u _ I7' r7 (step x H7 y7)) fun _ s8 ⟨σ8,H8,I8,q8⟩=>?_
      refine cA (ht C s₃ (bw H2 D (.lst [])) fp _ s8 σ8 H8 _ I8 q8) fun ok s9 ⟨H9,I9,q9⟩=>?_
      cases ok with
      | false=>
        rw [if_neg Pz] at q9 ⊢
        exact again I9 q9
      | true=>
        rw [if_pos rfl] at q9 ⊢
        refine cA (he C s₃ (bw H2 D (.lst [])) fp _ s9 σ8 H9 _ I9 q9) fun v s10 ⟨xv,H10,I10,r10,ys,hl,hz,n10⟩=>?_
        refine cA (qL _ s10 σ8 H10 (.ref D) [xv] (.ref D) [v] (fun _ H=>N σ8 H) I10 rfl (.cons r10 .nil) ⟨D,ys,xv,rfl,rfl,hl,hz,n10⟩) fun _ s11 ⟨_,H11,I11,_,q11⟩=>?_
        exact again I11 q11
  exact codeAny_compStart_list loop (T.self X.A 0 _ _ _ hst4 loop)
theorem zM{X:Cx}{elt iter tg:Nh}{ifs:List Nh}{scope:NL}{pos:Pos}{wi:TI}{g:TG}{tc:TT}{te:TE}(sc0:NL)(N0:List Str)(cp:List (Nat × Str))(tgN:List Str)
    (hc:X.calm=true)(hsc:X.env.scope=sc0)(hN0:X.N=N0)(hi:PI X tg iter wi)
    (hg:∀C s0 H0 fp,PG (be X scope cp tgN C s0 H0 fp) tg g)
    (ht:∀C s0 H0 fp,A0 (be X scope cp tgN C s0 H0 fp) ifs tc)
    (he:∀C s0 H0 fp,PE (be X scope cp tgN C s0 H0 fp) elt te)
    (hk:scope.kind=.function)(hown:∀y∈scope.names,y.2=.cell→scope.names.lookup y.1=some .cell)(hnames:∀y∈scope.names,y.2=.local→scope.names.lookup y.1=some .local)
    (hfr:∀y∈scope.names,y.2=.free→scope.names.lookup y.1=some .free∧sc0.names.lookup y.1=some .cell)
    (hcp:∀p∈cp,N0[p.1]?=some p.2)(hcq:∀p∈cp,sc0.names.lookup p.2=some .cell∧scope.names.lookup p.2=some .free)
    (hs:∀x,PR iter X.env x=pure x:=by intro _;rfl):
    PE X (.ListComp elt [⟨tg,iter,ifs,0⟩] scope pos) (AH cp tgN.length wi g tc te):=by
  intro pins s σ H Q I h
  rw [eval_ListComp]
  exact yG sc0 N0 cp tgN hc hsc hN0 hi hg ht he hk hown hnames hfr hcp hcq hs I h fun C D H5 s6 ⟨m,hn⟩ q _ key=>⟨m,hn,fun h' sb=>⟨.ref D,H5,key h' sb,rfl,q⟩⟩
def D3(sc0 scope:NL)(N0:List Str)(cp:List (Nat × Str))(W:List Nat):Bool:=
  (scope.names.all fun y=>(!(y.2==.local) || scope.names.lookup y.1==some .local)&&(!(y.2==.cell) || scope.names.lookup y.1==some .cell)&&(!(y.2==.free) || (scope.names.lookup y.1==some .free&&sc0.names.lookup y.1==some .cell)))&&
  (cp.all fun p=>N0[p.1]?==some p.2&&sc0.names.lookup p.2==some .cell&&scope.names.lookup p.2==some .free)&&decide ((cp.map (·.1)).Nodup)&&W.all fun j=>decide (cp.length≤j)
theorem Bo{sc0 scope:NL}{N0:List Str}{cp:List (Nat × Str)}{W:List Nat}(hch:D3 sc0 scope N0 cp W=true):
    (∀y∈scope.names,y.2=.cell→scope.names.lookup y.1=some .cell)∧(∀y∈scope.names,y.2=.local→scope.names.lookup y.1=some .local)∧
    (∀y∈scope.names,y.2=.free→scope.names.lookup y.1=some .free∧sc0.names.lookup y.1=some .cell)∧(∀p∈cp,N0[p.1]?=some p.2)∧(∀p∈cp,sc0.names.lookup p.2=some .cell∧scope.names.lookup p.2=some .free)∧
    (cp.map (·.1)).Nodup∧∀j∈W,cp.length≤j:=by
  simp only [D3,Ol,NV,decide_eq_true_eq] at hch
  obtain⟨⟨⟨h1,h2⟩,h3⟩,h4⟩:=hch
  refine⟨fun y hy e=>?_,fun y hy e=>?_,fun y hy e=>?_,fun p hp=>?_,fun p hp=>?_,h3,h4⟩
  · have:=(h1 y hy).1.2;rw [e] at this;simpa using this
  · have:=(h1 y hy).1.1;rw [e] at this;simpa using this
  · have:=(h1 y hy).2;rw [e] at this;simpa using this
  · have:=(h2 p hp).1.1;simpa using this
  · have a:=(h2 p hp).1.2;have c:=(h2 p hp).2;exact⟨by simpa using a,by simpa using c⟩
theorem dJ{X:Cx}{K:Ng}{pos:Pos}{elt iter tg:Nh}{ifs:List Nh}{scope:NL}{fi:FI}{g:FG}{ft:FT}{fe:FE}{W:List Nat}(cp:List (Nat × Str))(tgN:List Str)
    (hKx:X.K=K)(hc:X.calm=true)(hi:PI X tg iter (fI K fi))
    (hg:∀C s0 H0 fp,PG (be X scope cp tgN C s0 H0 fp) tg (fG K g W))
    (ht:∀C s0 H0 fp,A0 (be X scope cp tgN C s0 H0 fp) ifs (fT K ft))
    (he:∀C s0 H0 fp,PE (be X scope cp tgN C s0 H0 fp) elt (fE K fe))
    (hk:scope.kind=.function)(hch:D3 X.env.scope scope X.N cp W=true)
    (hs:∀x,PR iter X.env x=pure x):
    PE X (.ListComp elt [⟨tg,iter,ifs,0⟩] scope pos) (fE K (b_ cp tgN.length fi g ft fe)):=by
  subst hKx
  obtain⟨h0,h1,h2,h3,h4,h5,h6⟩:=Bo hch
  exact(zM X.env.scope X.N cp tgN hc rfl rfl hi hg ht he hk h0 h1 h2 h3 h4 hs).mono fun _ _ _ h=>AW h5 h6 h
open PySem PySem.Spec PyProof.Rows PySem.W
structure yo (lt:Nat→Nat→Bool):Prop where
  irr:∀i,lt i i=false
  tr:∀{i j k},lt i j=false→lt j k=false→lt i k=false
  asy:∀{i j},lt i j=true→lt j i=false
abbrev gA(p:Array Nat)(i:Nat):Nat:=p.getD i 0
structure KA (n:Nat) (p:Array Nat):Prop where
  sz:p.size=n
  pm:p.Perm (List.toArray (Pm n))
section
variable{lt:Nat→Nat→Bool}{n:Nat}(O:yo lt)
include O
end
open PySem PySem.Spec PyProof.Rows PySem.W
section
variable{prog:Nl}{w:Nj}{A:Nn}{E:Kz→Nc→Prop}{s:Nc}
end
open PySem PySem.Spec PyProof.Rows PySem.W
section
variable{X:Cx}{K:Ng}
def IU(h:Nk)(v:Kz)(r:List Int):Prop:=∃(a:xM) (o:Obj) (xs:List Kz) (n:Nat),v=.ref a∧h.get? a=some o∧o.cls=.type "tuple"∧o.data=.seq xs.toArray n∧Pd xs r
end
open PySem PySem.Spec PyProof.Rows PySem.W PySem.SeqAt
open PySem.AutoSeq1 (wpAny_loadPart')
open MeetsSeq MeetsSeq2 MeetsSeq3 SeqRoads2
open PySem PySem.Spec PyProof.Rows PySem.W PySem.SeqAt
section
variable{A:Nn}{s:Nc}
end
inductive Cm
  | i (k:Int)
  | r (f:List Int)
  | rs (R:List (List Int))
section
variable{A:Nn}{s:Nc}
end
open PySem PySem.Spec PyProof.Rows PySem.W PySem.SeqAt
section
variable{X:Cx}{K:Ng}
end
open PySem PySem.Spec PyProof.Rows PySem.W
section
variable{prog:Nl}{w:Nj}{A:Nn}{E:Kz→Nc→Prop}{s:Nc}{κ:SortKind}{it:Array Keyed}{N:Nat}{lt:Nat→Nat→Bool}{st:SortSt}
end
open PySem PySem.Spec PyProof.Rows PySem.W
section
variable{lt:Nat→Nat→Bool}(O:yo lt)
abbrev BK(lt:Nat→Nat→Bool)(x y:Nat):Prop:=lt y x=false
include O
end
structure Fn (lt:Nat→Nat→Bool) (A B r:List Nat):Prop where
  pm:r.Perm (A++B)
  so:r.Pairwise (BK lt)
structure Mg (lt:Nat→Nat→Bool) (A B o:List Nat) (ia ib:Nat):Prop where
  pm:o.Perm (A.take ia++B.take ib)
  so:o.Pairwise (BK lt)
  la:∀x∈o,∀y∈A.drop ia,BK lt x y
  lb:∀x∈o,∀y∈B.drop ib,BK lt x y
section
variable{lt:Nat→Nat→Bool}{A B o:List Nat}{ia ib:Nat}
end
section
variable{it:Array Keyed}
end
open PySem PySem.Spec PyProof.Rows PySem.W
section
variable{prog:Nl}{w:Nj}{A:Nn}{E:Kz→Nc→Prop}{s:Nc}{κ:SortKind}{it:Array Keyed}{N:Nat}{lt:Nat→Nat→Bool}{st:SortSt}{a b:Array Nat}
structure KD (lt:Nat→Nat→Bool) (a b:Array Nat) (o:List Nat) (ia ib:Nat):Prop where
  m:Mg lt a.toList b.toList o ia ib
  ha:ia+1 < a.size
  hb:ib < b.size
structure KI (N:Nat) (lt:Nat→Nat→Bool) (a b:Array Nat):Prop where
  o:yo lt
  sa:a.toList.Pairwise (BK lt)
  sb:b.toList.Pairwise (BK lt)
  qa:∀j,j < a.size→gA a j < N
  qb:∀j,j < b.size→gA b j < N
  a0:0 < a.size
  b0:0 < b.size
  fst:lt (gA b 0) (gA a 0)=true
  lst:∀j,j < b.size→lt (gA b j) (gA a (a.size - 1))=true
end
open PySem PySem.Spec PyProof.Rows PySem.W
structure Hg (lt:Nat→Nat→Bool) (A B o:List Nat) (na nb:Nat):Prop where
  pm:o.Perm (A.drop na++B.drop nb)
  so:o.Pairwise fun x y=>BK lt y x
  la:∀x∈o,∀y∈A.take na,BK lt y x
  lb:∀x∈o,∀y∈B.take nb,BK lt y x
section
variable{lt:Nat→Nat→Bool}{A B o:List Nat}{na nb:Nat}
end
section
variable{it:Array Keyed}
end
section
variable{prog:Nl}{w:Nj}{A:Nn}{E:Kz→Nc→Prop}{s:Nc}{κ:SortKind}{it:Array Keyed}{N:Nat}{lt:Nat→Nat→Bool}{st:SortSt}{a b:Array Nat}
structure KB (lt:Nat→Nat→Bool) (a b:Array Nat) (o:List Nat) (na nb:Nat):Prop where
  m:Hg lt a.toList b.toList o na nb
  ha:0 < na
  hb:1 < nb
  la:na≤a.size
  lb:nb≤b.size
end
open PySem PySem.Spec PyProof.Rows PySem.W
section
variable{prog:Nl}{w:Nj}{A:Nn}{E:Kz→Nc→Prop}{s:Nc}{κ:SortKind}{it:Array Keyed}{N:Nat}{lt:Nat→Nat→Bool}{st:SortSt}
end
open PySem PySem.Spec PyProof.Rows PySem.W
structure Ch (lo:Nat) (p p':Array Nat):Prop where
  sz:p'.size=p.size
  pm:p'.Perm p
  low:∀i,i < lo→gA p' i=gA p i
section
variable{lt:Nat→Nat→Bool}(O:yo lt){p:Array Nat}{lo m:Nat}
include O
end
section
variable{prog:Nl}{w:Nj}{A:Nn}{E:Kz→Nc→Prop}{s:Nc}{κ:SortKind}{it:Array Keyed}{N:Nat}{lt:Nat→Nat→Bool}{p:Array Nat}{pend:Array (Nat × Nat × Nat)}{g lo nrem:Nat}
end
open PySem PySem.Spec PyProof.Rows PySem.W
section
variable{prog:Nl}{w:Nj}{A:Nn}{E:Kz→Nc→Prop}{s:Nc}{κ:SortKind}{it:Array Keyed}{N:Nat}{lt:Nat→Nat→Bool}{p:Array Nat}{pend:Array (Nat × Nat × Nat)}{g lo:Nat}
end
open PySem PySem.Spec PyProof.Rows PySem.W
section
variable{prog:Nl}{w:Nj}{A:Nn}{E:Kz→Nc→Prop}{s:Nc}
end
section
variable{X:Cx}{K:Ng}
end
open PySem PySem.Spec PyProof.Rows PySem.W
section
variable{X:Cx}{K:Ng}
end
open PySem PySem.Spec PyProof.Rows PySem.W
section
variable{X:Cx}{K:Ng}
end
section
variable{X:Cx}{K:Ng}
variable{o a:Nh}{es:List Nh}{fo:FE}{fs:FA}{apos cpos:Pos}
end
section
variable{X:Cx}{K:Ng}{σ σ2:L2.St}{H0 F H F2 H2 F3:Hp}{e e2:En}
end
section
variable{X:Cx}{K:Ng}{a b:Nh}{fa fb:FE}{pos p p1 p2 p3 pos':Pos}{x:Str}{i:Nat}
end
section
variable{X:Cx}{K:Ng}
end
section
variable{prog:Nl}{w:Nj}{A:Nn}{R:Result→Nc→Prop}
end
def CO(l:xM)(wi:TI)(g:TG)(tc:TT)(tk tv:TE)(σ:L2.St)(H:Hp)(N:L2.St→Hp→Prop):Prop:=
  wi σ H fun J H1=>∃W:Nat→Nat→L2.St→Hp→Prop,(∃m,W 0 m σ H1)∧∀i m σ' H',W i m σ' H'→
    (J.stop i H'∧N σ' H')∨(J.go i H'∧∃N2:L2.St→Hp→Prop,(∀σ2 H2,N2 σ2 H2→∃m',m' < m∧W (i+1) m' σ2 H2)∧
      ∀x H2,J.yld i H' x H2→g x σ' H2 fun σ2 H3=>tc σ2 H3 fun b H4=>if b=true then tk σ2 H4 fun y H5=>tv σ2 H5 fun v H6=>∃(kk:jg) (kvs:List (jg × V)),y=kV kk∧H6 l=some (.dK kvs)∧kvs.length < Ny∧N2 σ2 (bw H6 l (.dK (Hl kvs kk v))) else N2 σ2 H4)
structure IC (cp:List (Nat × Str)) (nT:Nat) (wi:TI) (g:TG) (tc:TT) (wi2:TI) (g2:TG) (tc2:TT) (tk tv:TE) (σ:L2.St) (H:Hp) (Q:VK):Prop where
  go:wi σ H fun J H1=>∀l,H1 l=none→
  ∃W:Nat→Nat→L2.St→Hp→Prop,(∃m,W 0 m (i6 cp nT σ) (bw H1 l (.dK [])))∧∀i m σ' H',W i m σ' H'→
    (J.stop i H'∧Q (.ref l) H')∨(J.go i H'∧∃N:L2.St→Hp→Prop,(∀σ2 H2,N σ2 H2→∃m',m' < m∧W (i+1) m' σ2 H2)∧
      ∀x H2,J.yld i H' x H2→g x σ' H2 fun σ2 H3=>tc σ2 H3 fun b H4=>if b=true then CO l wi2 g2 tc2 tk tv σ2 H4 N else N σ2 H4)
def aK(p:Int × uT):jg × V:=(Sum.inl p.1,p.2.toV)
def aD(p:Int × uT):Nf × Nf:=(.int p.1,p.2.toD)
section
variable{K:Ng}{F H F' H':Hp}{σ σ':L2.St}{e e':En}{nT:Nat}
inductive CD (K:Ng) (W:List Nat) (σ0:L2.St) (F1 H1:Hp) (e0:En) (l:xM) (P:Hp→En→List (Int × uT)→Prop) (σ':L2.St) (H':Hp):Prop
  | mk {F':Hp} {ei:En} {acc:List (Int × uT)} (R:aW K F' H' σ' ei) (X:dc W σ0 F1 H1 e0 σ' F' H' ei) (fl:F' l=none) (hl:H' l=some (.dK (acc.map aK))) (pl:∀p∈acc,∀F,p.2.ok K F) (hc:P F' ei acc):CD K W σ0 F1 H1 e0 l P σ' H'
end
section
variable{X:Cx}{K:Ng}{pos:Pos}
end
section
variable{K:Ng}{F H F' H' F1 H1 F2 H2:Hp}{σ σ' σ1 σ2:L2.St}{e e' e1 e2:En}{i:Nat}{W W1 W2:List Nat}
theorem Fp.drop{j:Nat}{a:xM}(h:Fp σ (e.set i none) H j a):Fp σ e H j a:=by
  by_cases z:j=i
  · subst z
    rcases h with ⟨xs,h,_⟩ | ⟨xss,_,_,h,_⟩
    · rw [PP] at h
      split at h
      · split at h<;>cases h
      · rename_i n;exact absurd rfl n
    · rw [PP] at h
      split at h
      · split at h<;>cases h
      · rename_i n;exact absurd rfl n
  · unfold Fp at h ⊢
    rw [NC (NJ z)] at h
    exact h
theorem kZ{j:Nat}{s:Sv}(h:(e.set i none)[j]?=some (some s)):e[j]?=some (some s):=by
  by_cases z:i=j
  · subst z
    rw [PP] at h
    rw [if_pos rfl] at h
    split at h<;>cases h
  · rwa [NC z] at h
theorem bz.drop{a:xM}(h:bz σ (e.set i none) H a):bz σ e H a:=let ⟨j,q⟩:=h;⟨j,q.drop⟩
theorem aW.drop(R:aW K F H σ e)(i:Nat):aW K F H σ (e.set i none):=⟨R.sm,by rw [PL];exact R.len,fun j x h=>R.dat j x (kZ h),fun j xs h=>R.own j xs (kZ h),fun j xss h=>R.nst j xss (kZ h),fun j k a h1 h2=>R.fp j k a h1.drop h2.drop⟩
structure IS (K:Ng) (i:Nat) (F H:Hp) (σ:L2.St) (e:En):Prop where
  rel:aW K F H σ (e.set i none)
  dct:∃(l:xM) (m:List (Int × uT)),e[i]?=some (some (.d (.dict (m.map aD))))∧σ[i]?=some (some (.ref l))∧F l=none∧H l=some (.dK (m.map aK))∧∀p∈m,∀F,p.2.ok K F
structure JZ (i:Nat) (W:List Nat) (σ:L2.St) (F H:Hp) (e:En) (σ':L2.St) (F' H':Hp) (e':En):Prop where
  sf:ao F F'
  dom:∀a,H' a=none→H a=none
  fr:∀a vs,F a=none→H a=some (.lst vs)→¬bz σ (e.set i none) H a→F' a=none
  lst:∀a vs,H a=some (.lst vs)→∃vs',H' a=some (.lst vs')
  tmp:∀a o,H a=some o→¬bz σ (e.set i none) H a→σ[i]?≠some (some (.ref a))→H' a=some o
  own:∀a,bz σ' (e'.set i none) H' a→bz σ (e.set i none) H a∨H a=none
  wr:∀j,j∉W→σ'[j]?=σ[j]?
  dd:σ'[i]?=σ[i]?
  fd:∀a (m:DI),F a=none→H a=some m.1→¬bz σ (e.set i none) H a→σ[i]?≠some (some (.ref a))→F' a=none
end
section
variable{X:Cx}{K:Ng}{i:Nat}{W W1 W2:List Nat}{st:Nm}{cn:List Nm}{f g:FS}{ft:FT}{pos:Pos}
inductive IG (K:Ng) (i:Nat) (F1:Hp) (P:En→Prop) (G:L2.St→Hp→Hp→En→Prop) (σ:L2.St) (H:Hp):Prop
  | mk {F:Hp} {e:En} (R:IS K i F H σ e) (sF:ao F1 F) (hf:P e) (q:G σ F H e):IG K i F1 P G σ H
theorem iK{H:Hp}{σ:L2.St}{e:En}{v:Option V}{j:Nat}{a:xM}:Fp (σ.set i v) (e.set i none) H j a↔ Fp σ (e.set i none) H j a:=by
  by_cases z:i=j
  · subst z
    have no:∀s:Sv,(e.set i none)[i]?≠some (some s):=fun s h=>by
      rw [PP,if_pos rfl] at h
      split at h<;>cases h
    constructor
    · rintro(⟨xs,h,_⟩ | ⟨xss,_,_,h,_⟩)
      · exact absurd h (no _)
      · exact absurd h (no _)
    · rintro(⟨xs,h,_⟩ | ⟨xss,_,_,h,_⟩)
      · exact absurd h (no _)
      · exact absurd h (no _)
  · have e1:(σ.set i v)[j]?=σ[j]?:=NC z
    unfold Fp
    rw [e1]
theorem aW.poke{F H:Hp}{σ:L2.St}{e:En}(R:aW K F H σ (e.set i none))(v:Option V):aW K F H (σ.set i v) (e.set i none):=by
  have ne:∀(j:Nat) (s:Sv),(e.set i none)[j]?=some (some s)→i≠j:=fun j s h z=>by
    subst z
    rw [PP,if_pos rfl] at h
    split at h<;>cases h
  refine⟨R.sm,by rw [PL];exact R.len,fun j x h=>?_,fun j xs h=>?_,fun j xss h=>?_,fun j k a h1 h2=>R.fp j k a (iK.mp h1) (iK.mp h2)⟩
  · rw [NC (ne j _ h)];exact R.dat j x h
  · rw [NC (ne j _ h)];exact R.own j xs h
  · rw [NC (ne j _ h)];exact R.nst j xss h
end
section
variable{X:Cx}{C:xM}{x:Str}{p pos rp:Pos}{e:Nh}{t:TA}
end
structure Ku (P:Nl) (w:Nj) (fs:List xM) (H H':Hp) (h b0:Nk):Prop where
  keep:∀b o,h.get? b=some o→H b=none→b∉fs→b0.get? b=some o
  there:∀b o,h.get? b=some o→b∉fs→∃o',b0.get? b=some o'
  free:∀b o,h.get? b=some o→H b=none→H' b=none
  tups:∀b xs,H b=some (.tup xs)→H' b=some (.tup xs)
  frzs:∀b o u,H b=some (.frz o u)→H' b=some (.frz o u)
  tbls:∀b ps,H b=some (.tbl ps)→∃more,H' b=some (.tbl (ps++more))
  hok:mY P w H' b0
section
variable{P:Nl}{w:Nj}{K:Ng}{mg:Str→Option Kz}{base:Nk}{N:List Str}{qual:Str}{scope:NL}{f:xM}{cd:Kz}{A:Nn}{outer:List Env}{s:Nc}{H:Hp}{E:XK}{C:xM}{pins:List (xM × Obj)}{σ:L2.St}{H1:Hp}{s1:Nc}
end
section
variable{X:Cx}{K:Ng}{st r:Nm}{cn:List Nm}{c:Nh}{pos:Pos}{f1:FS}{ft:FT}{W1:List Nat}{g:En→Prop}
end
open PySem PySem.Spec PyProof.Rows PySem.W
section
variable{prog:Nl}{w:Nj}{A:Nn}{E:Kz→Nc→Prop}{h:Nk}{g:Array GenState}{d:Drawn}{t:Nat}{os:OsState}{a D:xM}{o:Obj}{K:Frag}
structure JY (K:Frag) (D:xM):Prop where
  ga:findIn K (.ref D) "__getattribute__"=some (some (.builtin "BaseException.__getattribute__"))
  gt:findIn K (.ref D) "__getattr__"=some none
  cl:findIn K (.ref D) "__class__"=some (some (.builtin "object.__class__"))
  mo:mroIn K D (.type "object")=some true
  mb:mroIn K D (.type "BaseException")=some true
  cs:(clsIn K D).isSome=true
end
def Jg(C a:xM)(h:Nk):Prop:=∃o,h.get? a=some o∧o.cls=.ref C
def Ke(C a:xM):HO:=.ext (Jg C a)
section
variable{X:Cx}{pins:List (xM × Obj)}{σ:L2.St}{H H':Hp}{s:Nc}{n:Str}{j:Nat}
end
section
variable{X:Cx}{C Cb f:xM}{fd:Nx}{ps:List Str}{k n k0 i j:Nat}{g:En→Prop}{fn B kx nx:Str}{p pos ep bp kp np ap hp tp:Pos}{e:Nh}{es:List Nh}{t:TA}
end
section
variable{X:Cx}{C:xM}{i:Nat}{x c:Str}{p p1 p2 pos:Pos}{v:V}{u:Kz}{b:Bool}
def Jw(i:Nat)(C:xM)(b:Bool):TE:=fun σ H Q=>∃a,σ[i]?=some (some (.ref a))∧H a=some (Ke C a)∧Q (.bl b) H
end
abbrev t3(C:xM)(b1 b2 b3:Bool):TE:=HS (mU (Jw 0 C b1) (mU (Jw 0 C b2) (mU (Jw 0 C b3) AK)))
section
variable{K:Ng}
end
section
variable{X:Cx}{K:Ng}{C:xM}{x:Str}{p pos rp:Pos}{e:Nh}{fs:FA}
end
section
variable{P:Nl}{w:Nj}{K:Ng}{mg:Str→Option Kz}{base:Nk}{N ps:List Str}{qual fn:Str}{scope:NL}{fa f:xM}{cd:Kz}{A:Nn}{outer:List Env}{s:Nc}{H:Hp}{E:XK}{C:xM}{st:Nm}{fd:Nx}{k n k0:Nat}{g:En→Prop}{p pos ep:Pos}{e:Nh}{es:List Nh}{fs:FA}
end
section
variable{X:Cx}{C:xM}{i:Nat}{x:Str}{p p1 p2 pos:Pos}{vs:List V}{us:List Kz}{b:Bool}{cs:List Nh}{ctx:Nat}
end
section
variable{K:Ng}{σ:L2.St}{H:Hp}
end
section
variable{X:Cx}
end
abbrev IT(l:List Nat):Prop:=l.Pairwise (· < ·)
section
variable{prog:Nl}{w:Nj}{A:Nn}{E:Kz→Nc→Prop}{s:Nc}
end
section
variable{prog:Nl}{w:Nj}{A:Nn}{E:Kz→Nc→Prop}{s:Nc}
end
def Kn(t:SetTable):Nat→Nat
  | 0=>0
  | i+1=>t.place.getD i 0+1
inductive IY (w:Nj) (a:xM) (es:Array (Int × Kz)) (ep:Nat) (t:SetTable) (h:Nk):List Kz→xM→Nat→Kz→Prop where
  | text (hb:w.params.followText "set-order"=true) (p:xM) (i:Nat) (hp:p=a):IY w a es ep t h ((pickOrder (w.params.setOrder a ep) es).toList.map (·.2)) p i (rawInt 0)
  | led (hb:w.params.followText "set-order"=false) (hd:(!t.plain&&es.size > 1)=false) (hl:t.led=true) (hr:IT t.place.toList) (p:xM) (i:Nat) (hp:p=a):IY w a es ep t h (es.toList.map (·.2)) p i (rawInt (Kn t i))
  | drawn (hb:w.params.followText "set-order"=false) (p:xM) (i:Nat) (ys:List Nat) (hy:ys.Perm (Pm es.size)) (hp:IsTup h p (ys.map fun(i:Nat)=>rawInt i).toArray):IY w a es ep t h (ys.filterMap fun i=>es[i]?.map (·.2)) p i (.ref p)
section
variable{prog:Nl}{w:Nj}{A:Nn}{E:Kz→Nc→Prop}{s:Nc}
end
section
variable{prog:Nl}{w:Nj}{A:Nn}{E:Kz→Nc→Prop}{s:Nc}{I a p:xM}{es:Array (Int × Kz)}{ep:Nat}{t:SetTable}{L:List Kz}{i:Nat}
end
section
variable{prog:Nl}{w:Nj}{A:Nn}{E:Kz→Nc→Prop}{s:Nc}{a:xM}{es:Array (Int × Kz)}{ep:Nat}{t:SetTable}
end
section
variable{prog:Nl}{w:Nj}{A:Nn}{E:Kz→Nc→Prop}{s:Nc}
end
section
variable{prog:Nl}{w:Nj}{A:Nn}{E:Kz→Nc→Prop}{s:Nc}
end
section
variable{X:Cx}{K:Ng}{a:Nh}{fa:FE}{pos p pos2 p2:Pos}
end
section
variable{X:Cx}{K:Ng}{a b1 b2 b3:Nh}{fa:FE}{fs:FA}{pos p pos2 p2:Pos}
end
section
variable{prog:Nl}{w:Nj}{A:Nn}{E:Kz→Nc→Prop}{s:Nc}
end
section
variable{X:Cx}{K:Ng}{b1 b2 b3:Nh}{fs:FA}{pos p pos2 p2:Pos}
end
section
variable{X:Cx}{K:Ng}{es:List Nh}{k0:Nat}{tp:Pos}{a b:Nh}{fs:FA}{p pos:Pos}
end
section
variable{X:Cx}{pins:List (xM × Obj)}{σ:L2.St}{H:Hp}{s:Nc}
end
section
variable{prog:Nl}{w:Nj}{A:Nn}{E:Kz→Nc→Prop}{s:Nc}
end
section
variable{X:Cx}{K:Ng}{es:List Nh}{k0:Nat}{tp:Pos}{a b:Nh}{fs:FA}{p pos:Pos}
end
structure IE (z TI TO i1 i2 i3 l1 l2 l3:xM):Prop where
  nO:TO≠z
  nz:i1≠z∧i2≠z∧i3≠z
  nT:TO≠i1∧TO≠i2∧TO≠i3
  ni:i1≠i2∧i1≠i3∧i2≠i3
  l:∀a,a=l1∨a=l2∨a=l3→a≠z∧a≠TO∧a≠i1∧a≠i2∧a≠i3
section
variable{prog:Nl}{w:Nj}{A:Nn}{E:Kz→Nc→Prop}{s:Nc}{z TI TO i1 i2 i3 l1 l2 l3:xM}{k:Nat}{xs ys zs:Array Kz}{a b c:Kz}
end
section
variable{K:Ng}{σ:L2.St}{F H:Hp}
end
section
variable{X:Cx}{K:Ng}{es:List Nh}{k0:Nat}{tp:Pos}{a b c:Nh}{fs:FA}{p pos:Pos}
end
section
variable{X:Cx}{K:Ng}{es:List Nh}{k0:Nat}{tp:Pos}{a b:Nh}{fs:FA}{p pos:Pos}
end
section
variable{X:Cx}{K:Ng}{es:List Nh}{k0:Nat}{tp:Pos}{a:Nh}{ta:TA}{p pos:Pos}
end
section
variable{X:Cx}{K:Ng}{es:List Nh}{k0:Nat}{tp:Pos}{a:Nh}{fs:FA}{p pos:Pos}
end
section
variable(P:Nl)(w:Nj)
end
section
variable{P:Nl}{w:Nj}{H H':Hp}{h h':Nk}{a:xM}{o:HO}
end
section
variable{P:Nl}{w:Nj}{H:Hp}{h h':Nk}{x e:xM}{o':HO}
end
section
variable{fs fs' ex ex':List xM}{H H1 H2:Hp}{h h1 h2 h':Nk}{a x e:xM}{o:HO}
end
section
variable{X:Cx}{pins:List (xM × Obj)}{σ:List (Option V)}{H H':Hp}{s:Nc}{h':Nk}
end
section
variable{X:Cx}
variable{a b:Nh}{ta tb:TE}{pos:Pos}
variable{tA tB':TT}{cn:List Nh}
end
section
variable{X:Cx}{pins:List (xM × Obj)}{σ:St}{H:Hp}{s:Nc}{a:xM}{xs ys:List V}
end
section
variable{X:Cx}{pins:List (xM × Obj)}{σ:St}{H:Hp}{s:Nc}{E:Kz→Nc→Prop}
end
section
variable{X:Cx}{st:Nm}{cn:List Nm}{t u:TS}{e:Nh}{te:TE}{pos:Pos}
end
section
variable{X:Cx}{pos:Pos}
end
section
variable{X:Cx}{pos:Pos}
end
section
variable{X:Cx}{tg:Nh}
end
section
variable{X:Cx}{a b c:Nh}{ta tb tc:TE}{pos:Pos}
end
section
variable{X:Cx}{a b c:Nh}{ta tb tc:TE}{pos:Pos}
end
section
variable{prog:Nl}{w:Nj}{A:Nn}{E:Kz→Nc→Prop}{s:Nc}{K:Ng}{x dx C f:xM}{mA:Str→Option Kz}{name:Str}{v:Kz}
end
section
variable{P:Nl}{w:Nj}{H H':Hp}{h h':Nk}{a C dx:xM}{fs fs':List (Str × V)}
end
section
variable{X:Cx}{pins:List (xM × Obj)}{σ:St}{H:Hp}{s:Nc}{a C dx:xM}{fs:List (Str × V)}{f:Str}{v:V}{A:Nn}{E:Kz→Nc→Prop}
end
section
variable{X:Cx}{o e value:Nh}{f:Str}{pos pos' tpos:Pos}{ta tv:TE}
end
section
variable{X:Cx}{pins:List (xM × Obj)}{σ:St}{H:Hp}{s:Nc}{A:Nn}{E:Kz→Nc→Prop}{Q:Kz→Nc→Prop}{c:Kz}{b:Bool}
end
section
variable{X:Cx}{e:Nh}{es:List Nh}{te:TE}{t:TA}{pos:Pos}
end
section
variable{X:Cx}{pins:List (xM × Obj)}{σ:St}{H:Hp}{s s':Nc}
end
section
variable{X:Cx}{CX:sZ}{k:Nat}{f C:xM}{fd:Nx}{ps:List Str}{sp:Sp}{dvs:List V}{ds:List Kz}{E:XK}{x m:Str}{p pos apos:Pos}{e o:Nh}{es:List Nh}{ta:TE}{t:TA}
end
section
variable{X:Cx}{CX:sZ}{k:Nat}{f C:xM}{fd:Nx}{ps ks:List Str}{sp:Sp}{E:XK}{x m:Str}{p pos apos kpos:Pos}{e o:Nh}{es:List Nh}{kws:List Oi}{te ta:TE}{t tk:TA}{nm:Option Str}
variable{g:List Kz→List Kz→List Kz}{gV:List V→List V→List V}
end
section
variable{X:Cx}{x:Str}{p pos:Pos}{e:Nh}{es:List Nh}{t:TA}{id T:String}{r:List V→Hp→VK→Prop}
end
section
variable{κ:Type}[DecidableEq κ]
end
section
variable{P:Nl}{w:Nj}{H:Hp}{h:Nk}{a:xM}
end
section
variable{X:Cx}{pins:List (xM × Obj)}{σ:St}{H:Hp}{s:Nc}{a:xM}{y v:V}{u r:Kz}{o:Option V}{A:Nn}{E:Kz→Nc→Prop}
end
section
variable{X:Cx}{pins:List (xM × Obj)}{σ:St}{H:Hp}{s:Nc}{a:xM}{kvs:List (jg × V)}{k:jg}{u:Kz}{A:Nn}{E:Kz→Nc→Prop}
end
section
variable{X:Cx}{o i e value:Nh}{pos pos' tpos:Pos}{td ty tv:TE}
end
section
variable{X:Cx}{pos:Pos}
end
structure M2 (X:Cx) (o:Nh) (m:Str) (apos:Pos) (e f:Nh) (cpos:Pos):Prop where
  base:Oy o m X.env (Nt o X.env)=Nt o X.env
  few:((ND cpos (Nq [e,f] X.env)).all (fun x=> !x.1)&&(OT cpos (OU [] X.env)).all (fun x=>x.1.isSome)
    &&decide (([e,f]:List Nh).length+([]:List Oi).length+(if ([]:List Oi).isEmpty then 0 else 1) < 30))=true
  line:(apos.endLine==cpos.line)=true
  trees:ND cpos (Nq [e,f] X.env)=[(false,Nt e X.env),(false,Nt f X.env)]
section
variable{X:Cx}{pins:List (xM × Obj)}{σ:St}{H:Hp}{s:Nc}{a:xM}{y d:V}{u r:Kz}{o:Option V}{A:Nn}{E:Kz→Nc→Prop}
end
section
variable{X:Cx}{o e f:Nh}{apos cpos:Pos}{td ty tx:TE}
end
section
variable{X:Cx}{pins:List (xM × Obj)}{σ:St}{H:Hp}{s:Nc}{a:xM}{kvs:List (jg × V)}{A:Nn}{E:Kz→Nc→Prop}
end
section
variable{X:Cx}{pins:List (xM × Obj)}{σ:St}{H:Hp}{s:Nc}{a:xM}{y:V}{u:Kz}{A:Nn}{E:Kz→Nc→Prop}
end
end L2
namespace Att
open PySem PySem.W PySem.Calls PyProof.Rows
section
variable{prog:Nl}{w:Nj}{A:Nn}{E:Kz→Nc→Prop}{s:Nc}{K:Frag}
end
end Att
namespace L2
open PySem PySem.Spec PyProof.Rows
section
variable{P:Nl}{w:Nj}{K:Ng}{mg:Str→Option Kz}{base:Nk}
end
section
variable{X:Cx}
end
section
variable{κ:Type}[DecidableEq κ]
end
section
variable{prog:Nl}{w:Nj}{A:Nn}{R:Result→Nc→Prop}
end
structure IB (cp:List (Nat × Str)) (nT:Nat) (wi:TI) (g:TG) (tk tv:TE) (σ:L2.St) (H:Hp) (Q:VK):Prop where
  go:wi σ H fun J H1=>∀l,H1 l=none→
  ∃W:Nat→Nat→L2.St→Hp→Prop,(∃m,W 0 m (i6 cp nT σ) (bw H1 l (.dK [])))∧∀i m σ' H',W i m σ' H'→
    (J.stop i H'∧Q (.ref l) H')∨(J.go i H'∧∃N:L2.St→Hp→Prop,(∀σ2 H2,N σ2 H2→∃m',m' < m∧W (i+1) m' σ2 H2)∧
      ∀x H2,J.yld i H' x H2→g x σ' H2 fun σ2 H4=>tk σ2 H4 fun y H5=>tv σ2 H5 fun v H6=>∃(kk:jg) (kvs:List (jg × V)),y=kV kk∧H6 l=some (.dK kvs)∧kvs.length < Ny∧N σ2 (bw H6 l (.dK (Hl kvs kk v))))
abbrev Ip:=Int × Int × Int
def pD(p:Ip):Nf × Nf:=(.int p.1,.tuple [.int p.2.1,.int p.2.2])
section
variable{K:Ng}{F H F' H':Hp}{σ σ':L2.St}{e e':En}{cp:List (Nat × Str)}{nT:Nat}
def Kd(m:List (Int × uT))(acc:List Ip):Prop:=m.map aD=acc.map pD
inductive JW (K:Ng) (W:List Nat) (σ0:L2.St) (F1 H1:Hp) (e0:En) (l:xM) (P:Hp→En→List Ip→Prop) (σ':L2.St) (H':Hp):Prop
  | mk {F':Hp} {ei:En} {acc:List Ip} {m:List (Int × uT)} (R:aW K F' H' σ' ei) (X:dc W σ0 F1 H1 e0 σ' F' H' ei) (fl:F' l=none) (hl:H' l=some (.dK (m.map aK))) (ok:∀p∈m,p.2.ok K F') (ha:Kd m acc) (hc:P F' ei acc):JW K W σ0 F1 H1 e0 l P σ' H'
end
section
variable{X:Cx}{K:Ng}{pos:Pos}
end
section
variable{X:Cx}{K:Ng}{pos:Pos}
end
section
variable{X:Cx}{K:Ng}{g:En→Prop}{x:Str}{e a:Nh}{es:List Nh}{p pos:Pos}{T:String}
end
section
variable{P:Nl}{w:Nj}{K:Ng}{mg:Str→Option Kz}{base:Nk}{N ps:List Str}{qual fn:Str}{scope:NL}{fa f:xM}{cd:Kz}{A:Nn}{outer:List Env}{s:Nc}{H:Hp}{E:XK}{C:xM}{st:Nm}{fd:Nx}{k n k0:Nat}{g:En→Prop}{p pos:Pos}{e:Nh}{es:List Nh}{fs:FA}
end
section
variable{X:Cx}{K:Ng}{σ:L2.St}{F H:Hp}{e e':En}
end
def sm(f:Nat→Int):Nat→Int
  | 0=>0
  | n+1=>sm f n+f n
def sg:Nat→Int
  | 0=>1
  | n+1=> - sg n
def sk(j a:Nat):Nat:=if a < j then a else a+1
def JO:Nat→(Nat→Nat→Int)→Int
  | 0,_=>1
  | k+1,c=>sm (fun j=>sg j*c j 0*JO k (fun a i=>c (sk j a) (i+1))) (k+1)
def pu(c:Nat→Nat→Int)(p:Nat)(v:Nat→Int):Nat→Nat→Int:=fun a=>if a=p then v else c a
def sq(f:Nat→Rat):Nat→Rat
  | 0=>0
  | n+1=>sq f n+f n
structure Tb where
  T:Nat→Nat→Int
  d:Int
  out:Nat→Nat
  win:Nat→Nat
def Km(s:Tb)(r c:Nat):Tb where
  T:=fun i j=>if i=r then(if j=c then s.d else s.T r j) else if j=c then - s.T i c else(s.T i j*s.T r c - s.T i c*s.T r j) / s.d
  d:=s.T r c
  out:=fun j=>if j=c then s.win r else s.out j
  win:=fun k=>if k=r then s.out c else s.win k
section
variable(n m:Nat)(C:Nat→Nat→Int)
def IQ(x:Nat→Rat):Prop:=∀i,i≤m→sq (fun j=>(C j i:Rat)*x j) n+x (n+i)=(C (n+m+1) i:Rat)
structure Iv (s:Tb):Prop where
  dp:0 < s.d
  cl:∀j,j≤n→∀i,s.d*C (s.out j) i=sm (fun k=>s.T k j*C (s.win k) i) (m+1)
  dt:JO (m+1) (fun k=>C (s.win k))=s.d
  fe:∀i,i < m→0≤s.T i n
  wm:s.win m=n+m
  on:s.out n=n+m+1
  oi:∀j,j < n→∀j',j' < n→s.out j=s.out j'→j=j'
  wi:∀k,k≤m→∀k',k'≤m→s.win k=s.win k'→k=k'
  dj:∀j,j < n→∀k,k≤m→s.out j≠s.win k
  cv:∀v,v≤n+m→(∃j,j < n∧s.out j=v)∨(∃k,k≤m∧s.win k=v)
  og:∀j,j < n→s.out j≤n+m
  wg:∀k,k≤m→s.win k≤n+m
  eq:∀x,IQ n m C x↔ ∀k,k≤m→(s.d:Rat)*x (s.win k)+sq (fun j=>(s.T k j:Rat)*x (s.out j)) n=(s.T k n:Rat)
end
section
variable{n m:Nat}{C:Nat→Nat→Int}{s:Tb}(I:Iv n m C s){r c:Nat}(hr:r < m)(hc:c < n)(hp:0 < s.T r c)
include I hr hc hp
end
section
variable(n m:Nat)
structure JX (s:Tb) (c:Nat):Prop where
  hc:c < n
  neg:s.T m c < 0
  first:∀j,j < n→s.T m j < 0→s.out c≤s.out j
structure J4 (s:Tb) (c r:Nat):Prop where
  hr:r < m
  pos:0 < s.T r c
  rat:∀i,i < m→0 < s.T i c→s.T r n*s.T i c≤s.T i n*s.T r c
  first:∀i,i < m→0 < s.T i c→s.T r n*s.T i c=s.T i n*s.T r c→s.win r≤s.win i
structure J9 (C:Nat→Nat→Int) (st:Nat→Tb) (cs rs:Nat→Nat) (K:Nat):Prop where
  iv:∀k,k≤K→Iv n m C (st k)
  en:∀k,k < K→JX n m (st k) (cs k)
  le:∀k,k < K→J4 n m (st k) (cs k) (rs k)
  nx:∀k,k < K→st (k+1)=Km (st k) (rs k) (cs k)
end
section
variable{n m:Nat}{C:Nat→Nat→Int}
variable{st:Nat→Tb}{cs rs:Nat→Nat}{K:Nat}(W:J9 n m C st cs rs K)
include W
end
section
variable{n m:Nat}{C:Nat→Nat→Int}
end
open PySem PySem.Spec PyProof.Rows PySem.W
section
variable{prog:Nl}{w:Nj}{A:Nn}{R:Result→Nc→Prop}
structure J6 (I l S:xM) (vs:List Kz) (rs:List (List Int)) (j:Nat) (arr:Array Kz) (c:Nat) (h:Nk):Prop where
  it:h.IsListIter I l j
  ls:h.IsList l vs.toArray
  ro:∀(i:Nat) (r:List Int),rs[i]?=some r→∃v,vs[i]?=some v∧IU h v r
  sc:h.get? S=some {cls:=.type "list",dict:=none,data:=.seq arr c,slots:=#[]}
end
section
variable{X:Cx}{K:Ng}
end
section
variable{X:Cx}{K:Ng}{x y:Str}{p p2 pos:Pos}{i j:Nat}{a c:Nh}
end
section
variable{X:Cx}{K:Ng}{pos p2:Pos}
end
structure KH (n m:Nat) (s:Tb):Prop where
  d:Bt 1900 s.d
  t:∀i,i≤m→∀j,j≤n→Bt 1900 (s.T i j)
def Ki(n m:Nat)(g:Nat→Int)(A:Nat→Nat→Int)(b:Nat→Int)(v i:Nat):Int:=
  if v < n then(if i < m then A i v else if i=m then - g v else 0) else if v≤n+m then(if i=v - n then 1 else 0) else if v=n+m+1 then(if i < m then b i else 0) else 0
section
variable(n m:Nat)(g:Nat→Int)(A:Nat→Nat→Int)(b:Nat→Int)
end
section
variable{n m:Nat}{g:Nat→Int}{A:Nat→Nat→Int}{b:Nat→Int}
end
abbrev TL:=lQ × Rat
def rs(f:TL→Rat):List TL→Rat
  | []=>0
  | p::P=>f p+rs f P
def Ed(th:Int)(t:lQ):Bool:=t.one==th || t.other==th
def GZ(th:Int)(p:TL):Rat:=if Ed th p.1=true then(p.1.top:Rat)*p.2 else 0
def GD(th:Int)(p:TL):Rat:=if Ed th p.1=true then(p.1.bot:Rat)*p.2 else 0
def GA(p:TL):Rat:=(p.1.bot:Rat)*p.2
def Dl(p:TL):Rat:=((p.1.top*p.1.worth:Int):Rat)*p.2
structure C6 (W:aT) (P:List TL):Prop where
  ties:P.map (·.1)=W.ties
  nn:∀p∈P,0≤p.2
  once:∀p∈P,GA p≤1
  keep:∀k:Nat,(k:Int) < W.things→rs (GZ k) P≤1
  bear:∀k:Nat,(k:Int) < W.things→rs (GD k) P≤(W.pat.getD k 0:Rat)
  ask:rs GA P≤(W.asks:Rat)
structure Kx (W:aT) (V:Rat):Prop where
  ex:∃P,C6 W P∧rs Dl P=V
  top:∀P,C6 W P→rs Dl P≤V
structure Up (t t':lQ) (r:Rat):Prop where
  one:t'.one=t.one
  other:t'.other=t.other
  r0:0≤r
  top:(t'.top:Rat)*r≤(t.top:Rat)
  bot:(t'.bot:Rat)*r≤(t.bot:Rat)
  gain:((t.top*t.worth:Int):Rat)≤((t'.top*t'.worth:Int):Rat)*r
def tj(W:aT)(j:Nat):lQ:=W.ties.getD j ⟨0,0,0,0,0⟩
def wT(W:aT):Nat:=W.things.toNat
section
variable{W:aT}
end
section
variable{n m:Nat}{g:Nat→Int}{A:Nat→Nat→Int}{b:Nat→Int}
end
def hG(W:aT)(j:Nat):Int:=(tj W j).worth
def hA(W:aT)(i j:Nat):Int:=if Ed (i:Int) (tj W j)=true then 1 else 0
def hO(_:Nat):Int:=1
abbrev hC(W:aT):Nat→Nat→Int:=Ki W.ties.length (wT W) (hG W) (hA W) hO
def hS(c:Int→Bool)(i:Nat):Int:=if c (i:Int)=true then 1 else -1
section
variable{W:aT}(ok:W.Ok){c:Int→Bool}(hc:∀t∈W.ties,c t.one≠c t.other)
include ok hc
end
structure J3 (W:aT) (X Y:Nat→Int):Prop where
  x01:∀j,j < W.ties.length→X j=0∨X j=1
  one:∀i,i < wT W→sm (fun j=>hA W i j*X j) W.ties.length≤1
  y0:∀i,0≤Y i
  paid:∀j,j < W.ties.length→hG W j≤Y (tj W j).one.toNat+Y (tj W j).other.toNat
  eq:sm Y (wT W)=sm (fun j=>hG W j*X j) W.ties.length
inductive Ob where
  /-- a desk: its attributes -/
  | dk (fs:List (Str × Nf))
  /-- a tuple of two own lists -/
  | st (xs ys:List Nf)
def iy(K:Ng)(F:Hp):List (Str × Nf)→List (Str × V)→Prop
  | [],gs=>gs=[]
  | p::r,gs=>∃v hs,gs=(p.1,v)::hs∧DA K F p.2 v∧iy K F r hs
theorem iy.mono{K:Ng}{F F':Hp}(h:ao F F'):∀{fs:List (Str × Nf)} {gs:List (Str × V)},iy K F fs gs→iy K F' fs gs
  | [],_,q=>q
  | _::_,_,⟨v,hs,e,a,b⟩=>⟨v,hs,e,a.mono h,iy.mono h b⟩
theorem iy.len{K:Ng}{F:Hp}:∀{fs:List (Str × Nf)} {gs:List (Str × V)},iy K F fs gs→gs.length=fs.length
  | [],_,q=>by rw [show _=[] from q];rfl
  | _::_,_,⟨v,hs,e,a,b⟩=>by rw [e];simp [iy.len b]
theorem iy.get{K:Ng}{F:Hp}{f:Str}{x:Nf}:∀{fs:List (Str × Nf)} {gs:List (Str × V)},iy K F fs gs→fs.lookup f=some x→∃v,gs.lookup f=some v∧DA K F x v
  | [],_,_,h=>by cases h
  | (g,y)::r,_,⟨v,hs,e,a,b⟩,h=>by
    subst e
    rw [NU] at h ⊢
    cases c:f==g with
    | true=>rw [c] at h;cases h;exact⟨v,rfl,a⟩
    | false=>rw [c] at h;exact iy.get b h
def lz(f:Str)(x:Nf):List (Str × Nf)→List (Str × Nf)
  | []=>[(f,x)]
  | (g,y)::r=>if g=f then(g,x)::r else(g,y)::lz f x r
theorem iy.put{K:Ng}{F:Hp}{f:Str}{x:Nf}{v:V}(hx:DA K F x v):∀{fs:List (Str × Nf)} {gs:List (Str × V)},iy K F fs gs→iy K F (lz f x fs) (h8 f v gs)
  | [],_,q=>by rw [show _=[] from q];exact⟨v,[],rfl,hx,rfl⟩
  | (g,y)::r,_,⟨u,hs,e,a,b⟩=>by
    subst e
    by_cases c:g=f
    · simp only [lz,h8,if_pos c];exact⟨v,hs,rfl,hx,b⟩
    · simp only [lz,h8,if_neg c];exact⟨u,_,rfl,a,iy.put hx b⟩
theorem iy.none{K:Ng}{F:Hp}{f:Str}:∀{fs:List (Str × Nf)} {gs:List (Str × V)},iy K F fs gs→fs.lookup f=none→gs.lookup f=none
  | [],_,q,_=>by rw [show _=[] from q];rfl
  | (g,y)::r,_,⟨v,hs,e,a,b⟩,h=>by
    subst e
    rw [NU] at h ⊢
    cases c:f==g with
    | true=>rw [c] at h;cases h
    | false=>rw [c] at h;exact iy.none b h
def mZ(K:Ng)(C:xM)(F H:Hp):Ob→V→List xM→Prop
  | .dk fs,v,as=>∃p dx gs,v=.ref p∧as=[p]∧F p=none∧H p=some (.ins C dx gs)∧iy K F fs gs
  | .st xs ys,v,as=>∃t l m vs us,v=.ref t∧as=[l,m]∧l≠m∧dW K F t [.ref l,.ref m]∧F l=none∧F m=none∧H l=some (.lst vs)∧H m=some (.lst us)∧aQ K F xs vs∧aQ K F ys us
def kept:HO→Bool
  | .ins _ _ _=>true
  | .lst _=>true
  | _=>false
theorem mZ.at{K:Ng}{C:xM}{F H:Hp}{o:Ob}{v:V}{as:List xM}(h:mZ K C F H o v as):∀a∈as,F a=none∧∃u,H a=some u∧kept u=true:=by
  cases o with
  | dk fs=>
    obtain⟨p,dx,gs,rfl,rfl,h1,h2,_⟩:=h
    intro a ha
    rw [NX] at ha
    subst ha
    exact⟨h1,_,h2,rfl⟩
  | st xs ys=>
    obtain⟨t,l,m,vs,us,rfl,rfl,h0,h1,h2,h3,h4,h5,_⟩:=h
    intro a ha
    rcases Na ha with z | z
    · rw [z];exact⟨h2,_,h4,rfl⟩
    · rw [NX] at z;rw [z];exact⟨h3,_,h5,rfl⟩
theorem mZ.mono{K:Ng}{C:xM}{F H F' H':Hp}{o:Ob}{v:V}{as:List xM}(h:mZ K C F H o v as)(s:ao F F')(hf:∀a∈as,F' a=none)(hh:∀a∈as,H' a=H a):mZ K C F' H' o v as:=by
  cases o with
  | dk fs=>
    obtain⟨p,dx,gs,rfl,rfl,h1,h2,h3⟩:=h
    exact⟨p,dx,gs,rfl,rfl,hf p (by simp),by rw [hh p (by simp)];exact h2,h3.mono s⟩
  | st xs ys=>
    obtain⟨t,l,m,vs,us,rfl,rfl,h0,h1,h2,h3,h4,h5,h6,h7⟩:=h
    exact⟨t,l,m,vs,us,rfl,rfl,h0,s.tup h1,hf l (by simp),hf m (by simp),by rw [hh l (by simp)];exact h4,by rw [hh m (by simp)];exact h5,h6.mono s,h7.mono s⟩
inductive Lc where
  | s (i:Nat)
  | it (i k:Nat)
  deriving DecidableEq
def Lc.slot:Lc→Nat
  | .s i=>i
  | .it i _=>i
def lR(K:Ng)(F:Hp)(σ:L2.St):Lc→V→Prop
  | .s i,v=>σ[i]?=some (some v)
  | .it i k,v=>∃l vs,σ[i]?=some (some (.ref l))∧F l=some (.lst vs)∧vs[k]?=some v
theorem lR.mono{K:Ng}{F F':Hp}{σ σ':L2.St}{c:Lc}{v:V}(h:lR K F σ c v)(s:ao F F')(e:σ'[c.slot]?=σ[c.slot]?):lR K F' σ' c v:=by
  cases c with
  | s i=>exact e.trans h
  | it i k=>obtain⟨l,vs,h1,h2,h3⟩:=h;exact⟨l,vs,e.trans h1,s _ _ h2,h3⟩
theorem lR.uniq{K:Ng}{F:Hp}{σ:L2.St}{c:Lc}{v w:V}(h:lR K F σ c v)(h':lR K F σ c w):v=w:=by
  cases c with
  | s i=>have e1:σ[i]?=_:=h;have e2:σ[i]?=_:=h';rw [e1] at e2;cases e2;rfl
  | it i k=>
    obtain⟨l,us,e1,e2,e3⟩:=h
    obtain⟨l',us',e1',e2',e3'⟩:=h'
    rw [e1] at e1';cases e1'
    rw [e2] at e2';cases e2'
    rw [e3] at e3';cases e3';rfl
abbrev je:=List (Lc × Ob)
def Fo(ob:je)(fp:Lc→List xM)(a:xM):Prop:=∃p∈ob,a∈fp p.1
structure a_ (K:Ng) (C:xM) (F H:Hp) (σ:L2.St) (e:En) (ob:je) (fp:Lc→List xM):Prop where
  rel:aW K F H σ e
  obs:∀p∈ob,e[p.1.slot]?=some none∧∃v,lR K F σ p.1 v∧mZ K C F H p.2 v (fp p.1)
  dis:∀p∈ob,∀q∈ob,p.1≠q.1→∀a∈fp p.1,a∉fp q.1
  own:∀a,Fo ob fp a→¬bz σ e H a
structure bY (W:List Nat) (σ:L2.St) (F H:Hp) (e:En) (S:xM→Prop) (σ':L2.St) (F' H':Hp) (e':En) (S':xM→Prop):Prop where
  sf:ao F F'
  dom:∀a,H' a=none→H a=none
  fr:∀a vs,F a=none→H a=some (.lst vs)→¬bz σ e H a→¬S a→F' a=none
  lst:∀a vs,H a=some (.lst vs)→∃vs',H' a=some (.lst vs')
  tmp:∀a o,H a=some o→¬bz σ e H a→¬S a→H' a=some o
  own:∀a,bz σ' e' H' a∨S' a→(bz σ e H a∨S a)∨H a=none
  wr:∀j,j∉W→σ'[j]?=σ[j]?
  fd:∀a (m:DI),F a=none→H a=some m.1→¬bz σ e H a→¬S a→F' a=none
section
variable{K:Ng}{C:xM}{W W1 W2:List Nat}{σ σ' σ1 σ2:L2.St}{F H F' H' F1 H1 F2 H2:Hp}{e e' e1 e2:En}{ob ob':je}{fp fp':Lc→List xM}{S S' S1 S2:xM→Prop}
theorem bY.refl:bY W σ F H e S σ F H e S:=⟨ao.refl _,fun _ h=>h,fun _ _ h _ _ _=>h,fun _ vs h=>⟨vs,h⟩,fun _ _ h _ _=>h,fun _ h=>.inl h,fun _ _=>rfl,fun _ _ h _ _ _=>h⟩
theorem bY.no(x:bY W σ F H e S σ1 F1 H1 e1 S1){a:xM}(n1:¬bz σ e H a)(n2:¬S a){o:HO}(h:H a=some o):¬bz σ1 e1 H1 a∧¬S1 a:=by
  have k:¬(bz σ1 e1 H1 a∨S1 a):=fun z=>(x.own a z).elim (fun z=>z.elim n1 n2) fun z=>by rw [h] at z;cases z
  exact⟨fun z=>k (.inl z),fun z=>k (.inr z)⟩
theorem bY.trans(x:bY W σ F H e S σ1 F1 H1 e1 S1)(y:bY W σ1 F1 H1 e1 S1 σ2 F2 H2 e2 S2):bY W σ F H e S σ2 F2 H2 e2 S2:=
  ⟨x.sf.trans y.sf,fun a h=>x.dom a (y.dom a h),fun a vs h n n1 n2=>let ⟨vs',q⟩:=x.lst a vs n;y.fr a vs' (x.fr a vs h n n1 n2) q (x.no n1 n2 n).1 (x.no n1 n2 n).2,fun a vs h=>let ⟨vs',q⟩:=x.lst a vs h;y.lst a vs' q,
    fun a o h n1 n2=>y.tmp a o (x.tmp a o h n1 n2) (x.no n1 n2 h).1 (x.no n1 n2 h).2,fun a h=>(y.own a h).elim (x.own a) (fun z=>.inr (x.dom a z)),fun j h=>(y.wr j h).trans (x.wr j h),
    fun a m h n n1 n2=>y.fd a m (x.fd a m h n n1 n2) (x.tmp a _ n n1 n2) (x.no n1 n2 n).1 (x.no n1 n2 n).2⟩
theorem bY.mono(x:bY W1 σ F H e S σ' F' H' e' S')(h:∀j,j∈W1→j∈W):bY W σ F H e S σ' F' H' e' S':=⟨x.sf,x.dom,x.fr,x.lst,x.tmp,x.own,fun j n=>x.wr j fun z=>n (h j z),x.fd⟩
theorem a_.at(R:a_ K C F H σ e ob fp){a:xM}(h:Fo ob fp a):F a=none∧∃u,H a=some u∧kept u=true:=by
  obtain⟨p,hp,ha⟩:=h
  obtain⟨_,v,_,h2⟩:=R.obs p hp
  exact h2.at a ha
def okO(ob:je)(e:En):Bool:=ob.all fun p=>match e[p.1.slot]? with
  | some none=>true
  | _=>false
theorem zF(h:okO ob e=true){p:Lc × Ob}(hp:p∈ob):e[p.1.slot]?=some none:=by
  have:=NV.mp h p hp
  split at this
  · rename_i heq;exact heq
  · cases this
theorem a_.okO(R:a_ K C F H σ e ob fp):L2.okO ob e=true:=NV.mpr fun p hp=>by rw [(R.obs p hp).1]
theorem a_.hn(R:a_ K C F H σ e ob fp):∀a,Fo ob fp a→H a≠none:=fun a ha=>by
  obtain⟨_,u,h,_⟩:=R.at ha
  rw [h];simp
theorem a_.next(R:a_ K C F H σ e ob fp)(x:dc W σ F H e σ' F' H' e')(hw:∀p∈ob,p.1.slot∉W)(he:L2.okO ob e'=true)(R':aW K F' H' σ' e'):
    bY W σ F H e (Fo ob fp) σ' F' H' e' (Fo ob fp)∧a_ K C F' H' σ' e' ob fp:=by
  have hh:∀a,Fo ob fp a→H' a=H a:=fun a ha=>by
    obtain⟨_,u,h1,_⟩:=R.at ha
    rw [h1];exact x.tmp a u h1 (R.own a ha)
  have f0:∀a,Fo ob fp a→F' a=none:=fun a ha=>by
    obtain⟨g1,u,g2,g3⟩:=R.at ha
    cases u with
    | ins c d fs=>exact x.fd a ⟨_,rfl⟩ g1 g2 (R.own a ha)
    | lst vs=>exact x.fr a vs g1 g2 (R.own a ha)
    | _=>cases g3
  refine⟨⟨x.sf,x.dom,fun a vs h1 h2 h3 _=>x.fr a vs h1 h2 h3,x.lst,fun a o h1 h2 _=>x.tmp a o h1 h2,?_,x.wr,fun a m h1 h2 h3 _=>x.fd a m h1 h2 h3⟩,R',fun p hp=>⟨zF he hp,?_⟩,R.dis,fun a ha z=>?_⟩
  · rintro a (z | z)
    · exact(x.own a z).imp_left .inl
    · exact .inl (.inr z)
  · obtain⟨_,v,h1,h2⟩:=R.obs p hp
    exact⟨v,h1.mono x.sf (x.wr _ (hw p hp)),h2.mono x.sf (fun a ha=>f0 a ⟨p,hp,ha⟩) (fun a ha=>hh a ⟨p,hp,ha⟩)⟩
  · rcases x.own a z with z | z
    · exact R.own a ha z
    · exact R.hn a ha z
end
abbrev EX:=En × je
abbrev XE:=EX→Option (Nf × EX)
abbrev XT:=EX→Option (Bool × EX)
abbrev XA:=EX→Option (List Nf × EX)
def iw(K:Ng)(C:xM)(f:XE):TE:=fun σ H Q=>∃F x fp r x',a_ K C F H σ x.1 x.2 fp∧f x=some (r,x')∧∀F' H' v fp',bY [] σ F H x.1 (Fo x.2 fp) σ F' H' x'.1 (Fo x'.2 fp')→a_ K C F' H' σ x'.1 x'.2 fp'→DA K F' r v→Q v H'
def sW(K:Ng)(C:xM)(f:XT):TT:=fun σ H Q=>∃F x fp b x',a_ K C F H σ x.1 x.2 fp∧f x=some (b,x')∧∀F' H' fp',bY [] σ F H x.1 (Fo x.2 fp) σ F' H' x'.1 (Fo x'.2 fp')→a_ K C F' H' σ x'.1 x'.2 fp'→Q b H'
def Br(K:Ng)(C:xM)(f:XA):TA:=fun σ H Q=>∃F x fp rs x',a_ K C F H σ x.1 x.2 fp∧f x=some (rs,x')∧∀F' H' vs fp',bY [] σ F H x.1 (Fo x.2 fp) σ F' H' x'.1 (Fo x'.2 fp')→a_ K C F' H' σ x'.1 x'.2 fp'→aQ K F' rs vs→Q vs H'
section
variable{K:Ng}{C:xM}{W:List Nat}{σ σ0:L2.St}{F H F' H' F0 H0:Hp}{e e' e0:En}{ob:je}{fp:Lc→List xM}{S:xM→Prop}
theorem a_.toD{r:Rv}{d:Nf}{v:V}{H1:Hp}(Y:bY W σ0 F0 H0 e0 S σ F H e (Fo ob fp))(R:a_ K C F H σ e ob fp)(hd:∀a,H1 a=none→H0 a=none)(hn:∀a,Fo ob fp a→H1 a≠none)(A:ce K σ H1 F H e r v)(h:gO r=some d):
    ∃F2,bY W σ0 F0 H0 e0 S σ F2 H e (Fo ob fp)∧a_ K C F2 H σ e ob fp∧DA K F2 d v:=by
  cases r with
  | d x=>cases h;exact⟨F,Y,R,A⟩
  | s i=>cases h
  | l xs=>
    cases h
    obtain⟨F2,R2,s2,D2,f2⟩:=A.frozen R.rel
    have nh:∀a o,H0 a=some o→H1 a≠none:=fun a o z w=>by rw [hd a w] at z;cases z
    exact⟨F2,⟨Y.sf.trans s2,Y.dom,fun a vs h1 h2 h3 h4=>f2 a (Y.fr a vs h1 h2 h3 h4) (nh a _ h2),Y.lst,Y.tmp,Y.own,Y.wr,fun a m h1 h2 h3 h4=>f2 a (Y.fd a m h1 h2 h3 h4) (nh a _ h2)⟩,
      ⟨R2,fun p hp=>let ⟨c1,u,c2,c3⟩:=R.obs p hp;⟨c1,u,c2.mono s2 rfl,c3.mono s2 (fun a ha=>f2 a (R.at ⟨p,hp,ha⟩).1 (hn a ⟨p,hp,ha⟩)) fun _ _=>rfl⟩,R.dis,R.own⟩,D2⟩
theorem a_.pure(R:a_ K C F H σ e ob fp)(X:cW σ F H e F' H' e')(R':aW K F' H' σ e')(he:L2.okO ob e'=true):bY [] σ F H e (Fo ob fp) σ F' H' e' (Fo ob fp)∧a_ K C F' H' σ e' ob fp:=R.next X.s (fun _ _=>by simp) he R'
theorem a_.pure0(R:a_ K C F H σ e ob fp)(X:cW σ F H e F' H' e)(R':aW K F' H' σ e):bY [] σ F H e (Fo ob fp) σ F' H' e (Fo ob fp)∧a_ K C F' H' σ e ob fp:=R.pure X R' R.okO
end
section
variable{X:Cx}{K:Ng}{C:xM}{a b:Nh}{fe:FE}{fa fb:XE}{ft fu:XT}{fs:XA}{pos:Pos}{es:List Nh}{cn:List Nh}
def aC(f:FE):XE:=fun x=>(f x.1).bind fun p=>(gO p.1).bind fun d=>if okO x.2 p.2=true then some (d,(p.2,x.2)) else none
theorem aq(he:PE X a (fE K fe)):PE X a (iw K C (aC fe)):=he.mono fun σ H Q h=>by
  obtain⟨F,x,as,r,x',R,hf,q⟩:=h
  unfold aC at hf
  obtain⟨⟨r1,e1⟩,h1,hf⟩:=M7 hf
  obtain⟨d,h2,hf⟩:=M7 hf
  split at hf
  case isFalse=>cases hf
  case isTrue ho=>
  cases hf
  refine⟨F,x.1,r1,e1,R.rel,h1,fun F' H' v X' R' A'=>?_⟩
  obtain⟨Y,R2⟩:=R.pure X' R' ho
  obtain⟨F2,Y2,R3,D⟩:=a_.toD Y R2 (fun _ z=>z) R.hn A' h2
  exact q F2 H' v as Y2 R3 D
def f9(f:FT):XT:=fun x=>(f x.1).bind fun p=>if okO x.2 p.2=true then some (p.1,(p.2,x.2)) else none
theorem h9{ft:FT}(he:PT X a (fT K ft)):PT X a (sW K C (f9 ft)):=he.mono fun σ H Q h=>by
  obtain⟨F,x,as,r,x',R,hf,q⟩:=h
  unfold f9 at hf
  obtain⟨⟨r1,e1⟩,h1,hf⟩:=M7 hf
  split at hf
  case isFalse=>cases hf
  case isTrue ho=>
  cases hf
  refine⟨F,x.1,r1,e1,R.rel,h1,fun F' H' X' R'=>?_⟩
  obtain⟨Y,R2⟩:=R.pure X' R' ho
  exact q F' H' as Y R2
def ir(g:En→Rv→Rv→Option Rv)(fa fb:XE):XE:=fun x=>(fa x).bind fun p=>(fb p.2).bind fun q=>(g q.2.1 (.d p.1) (.d q.1)).bind fun z=>(gO z).map fun d=>(d,q.2)
theorem sU{r:R2}{g:En→Rv→Rv→Option Rv}(ho:gy K r g){σ:L2.St}{H:Hp}{Q:VK}(h:iw K C (ir g fa fb) σ H Q):Gs r (iw K C fa) (iw K C fb) σ H Q:=by
  obtain⟨F,x,as,z,x',R,hf,q⟩:=h
  unfold ir at hf
  obtain⟨⟨y,x1⟩,h1,hf⟩:=M7 hf
  obtain⟨⟨y2,x2⟩,h2,hf⟩:=M7 hf
  obtain⟨z',h3,hf⟩:=M7 hf
  obtain⟨d,h4,hf⟩:=M8 hf
  cases hf
  refine⟨F,x,as,y,x1,R,h1,fun F1 H1 v as1 X1 R1 A1=>⟨F1,x1,as1,y2,_,R1,h2,fun F2 H2 u as2 X2 R2 A2=>?_⟩⟩
  refine ho σ H F2 H2 _ (.d y) (.d y2) z' v u Q R2.rel (show DA K F2 y v from A1.mono X2.sf) (show DA K F2 y2 u from A2) h3 fun F3 H3 w X3 R3 A3=>?_
  obtain⟨Y,R4⟩:=R2.pure0 X3 R3
  obtain⟨F4,Y4,R5,D⟩:=a_.toD Y R4 (fun _ z=>z) R2.hn A3 h4
  exact q F4 H3 w _ ((X1.trans X2).trans Y4) R5 D
theorem Fw{op:Operator}{r:R2}{g:En→Rv→Rv→Option Rv}(hr:gD X (NZ op) r)(ho:gy K r g)(ha:PE X a (iw K C fa))(hb:PE X b (iw K C fb)):PE X (.BinOp a op b pos) (iw K C (ir g fa fb)):=(Dt hr ha hb).mono fun _ _ _ h=>sU ho h
theorem Ft(hK:X.K=K)(ha:PE X a (iw K C fa))(hb:PE X b (iw K C fb)):PE X (.BinOp a .Add b pos) (iw K C (ir cw fa fb)):=Fw (hK ▸ wD) C8 ha hb
theorem z0(hK:X.K=K)(ha:PE X a (iw K C fa))(hb:PE X b (iw K C fb))(hs:nA b):PE X (.Subscript a b pos) (iw K C (ir du fa fb)):=(Ds (hK ▸ GX) ha hb hs).mono fun _ _ _ h=>sU GY h
def boolD:Nf→Option Bool
  | .bool b=>some b
  | _=>none
theorem yu{F:Hp}{d:Nf}{v:V}{b:Bool}(h:DA K F d v)(q:boolD d=some b):v=.bl b:=by
  unfold boolD at q
  split at q
  · cases q;exact cX.mp h
  · cases q
def bU(f:XE):XT:=fun x=>(f x).bind fun p=>(boolD p.1).map fun b=>(b,p.2)
theorem rf{σ:L2.St}{H:Hp}{Q:Bool→Hp→Prop}(h:sW K C (bU fa) σ H Q):iw K C fa σ H fun x H'=>∃k,x=.bl k∧Q k H':=by
  obtain⟨F,x,as,b,x1,R,hf,q⟩:=h
  unfold bU at hf
  obtain⟨⟨y,x1'⟩,h1,hf⟩:=M7 hf
  obtain⟨b',h3,hf⟩:=M8 hf
  cases hf
  exact⟨F,x,as,y,_,R,h1,fun F1 H1 v as1 X1 R1 A1=>⟨_,yu A1 h3,q F1 H1 as1 X1 R1⟩⟩
theorem nI{op:CmpOp}{g:En→Rv→Rv→Option Rv}(h:mX X K op g)(ha:PE X a (iw K C fa))(hb:PE X b (iw K C fb))(hm:OK op b=false):PT X (.Compare a [op] [b] pos) (sW K C (bU (ir g fa fb))):=by
  obtain⟨r,h1,h2⟩:=h.ex
  exact(wJ h1 ha hb hm).mono fun σ H Q h=>by
    obtain⟨F,x,as,z,x2,R,hf,q⟩:=rf h
    exact sU h2 ⟨F,x,as,z,x2,R,hf,q⟩
theorem nK{e:Nh}(h:PE X e (iw K C fa))(he:∀whole,isTrue e X.env whole=(do let v ←whole;standAt e.pos;holding [v] (truthy v))):PT X e (sW K C (bU fa)):=(zY h he).mono fun _ _ _ h=>rf h
def vY(f g:XT):XT:=fun e=>(f e).bind fun p=>if p.1=true then some (true,p.2) else g p.2
def jd(f:XT):XT:=fun e=>(f e).map fun p=>(!p.1,p.2)
theorem CZ{σ:L2.St}{H:Hp}{Q:Bool→Hp→Prop}(h:sW K C (vY ft fu) σ H Q):Jx (sW K C ft) (sW K C fu) σ H Q:=by
  obtain⟨F,e,as,b,e1,R,hf,q⟩:=h
  unfold vY at hf
  obtain⟨⟨x,e1'⟩,h1,hf⟩:=M7 hf
  refine⟨F,e,as,x,e1',R,h1,fun F1 H1 as1 X1 R1=>?_⟩
  cases x with
  | false=>exact⟨F1,e1',as1,b,e1,R1,hf,fun F2 H2 as2 X2 R2=>q F2 H2 as2 (X1.trans X2) R2⟩
  | true=>cases hf;exact q F1 H1 as1 X1 R1
theorem Cz(ha:PT X a (sW K C ft)):PW X (.BoolOp .Or [a] pos) (sW K C ft):=zZ ha
theorem FC(ha:PT X a (sW K C ft))(hb:PW X (.BoolOp .Or (b::cn) pos) (sW K C fu)):PW X (.BoolOp .Or (a::b::cn) pos) (sW K C (vY ft fu)):=(Dv ha hb).mono fun _ _ _ h=>CZ h
theorem nJ(ha:PT X a (sW K C ft)):PT X (.UnaryOp .Not a pos) (sW K C (jd ft)):=(zX ha).mono fun σ H Q h=>by
  obtain⟨F,e,as,b,e1,R,hf,q⟩:=h
  unfold jd at hf
  obtain⟨⟨x,e1'⟩,h1,hf⟩:=M8 hf
  cases hf
  exact⟨F,e,as,x,_,R,h1,fun F1 H1 as1 X1 R1=>q F1 H1 as1 X1 R1⟩
theorem Ht{e:Nh}(h:PW X e (sW K C ft)):PT X e (sW K C ft):=h.pt
def vV(t:XT)(f g:XE):XE:=fun e=>(t e).bind fun p=>if p.1=true then f p.2 else g p.2
theorem qP{c:Nh}(hc:PT X c (sW K C ft))(ha:PE X a (iw K C fa))(hb:PE X b (iw K C fb)):PE X (.IfExp c a b pos) (iw K C (vV ft fa fb)):=(uq hc ha hb).mono fun σ H Q h=>by
  obtain⟨F,e,as,z,e2,R,hf,q⟩:=h
  unfold vV at hf
  obtain⟨⟨x,e1⟩,h1,hf⟩:=M7 hf
  refine⟨F,e,as,x,e1,R,h1,fun F1 H1 as1 X1 R1=>?_⟩
  cases x with
  | true=>exact⟨F1,e1,as1,z,e2,R1,hf,fun F2 H2 w as2 X2 R2 A2=>q F2 H2 w as2 (X1.trans X2) R2 A2⟩
  | false=>exact⟨F1,e1,as1,z,e2,R1,hf,fun F2 H2 w as2 X2 R2 A2=>q F2 H2 w as2 (X1.trans X2) R2 A2⟩
def ip:XA:=fun e=>some ([],e)
def bT(fa:XE)(fs:XA):XA:=fun e=>(fa e).bind fun p=>(fs p.2).map fun q=>(p.1::q.1,q.2)
theorem lB:PA X [] (Br K C ip):=gR.mono fun σ H Q h=>by
  obtain⟨F,e,as,r,e',R,hf,q⟩:=h
  cases hf
  exact q F H [] as bY.refl R aQ.nil
theorem j0(ha:PE X a (iw K C fa))(hr:PA X es (Br K C fs))(h:PJ a=false):PA X (a::es) (Br K C (bT fa fs)):=(vF ha hr h).mono fun σ H Q h=>by
  obtain⟨F,e,as,z,e2,R,hf,q⟩:=h
  unfold bT at hf
  obtain⟨⟨x,e1⟩,h1,hf⟩:=M7 hf
  obtain⟨⟨xs,e2'⟩,h2,hf⟩:=M8 hf
  cases hf
  refine⟨F,e,as,x,e1,R,h1,fun F1 H1 v as1 X1 R1 A1=>⟨F1,e1,as1,xs,_,R1,h2,fun F2 H2 vs as2 X2 R2 A2=>?_⟩⟩
  exact q F2 H2 (v::vs) as2 (X1.trans X2) R2 (.cons (A1.mono X2.sf) A2)
theorem DF{F H0 H:Hp}{σ:L2.St}{e:En}:∀{ds:List Nf} {vs:List V},aQ K F ds vs→dB K σ H0 F H e (ds.map .d) vs
  | [],_,h=>by simp only [aQ] at h;exact h
  | d::ds,_,h=>by
    simp only [aQ] at h
    obtain⟨x,r,rfl,h1,h2⟩:=h
    exact⟨x,r,rfl,h1,DF h2⟩
def sT(g:En→List Rv→Option Rv)(fs:XA):XE:=fun x=>(fs x).bind fun p=>(g p.2.1 (p.1.map .d)).bind fun z=>(gO z).map fun d=>(d,p.2)
theorem rc{r:List V→Hp→VK→Prop}{g:En→List Rv→Option Rv}(ho:cO K r g){σ:L2.St}{H:Hp}{Q:VK}(h:iw K C (sT g fs) σ H Q):IA r (Br K C fs) σ H Q:=by
  obtain⟨F,x,as,z,x2,R,hf,q⟩:=h
  unfold sT at hf
  obtain⟨⟨ds,x1⟩,h1,hf⟩:=M7 hf
  obtain⟨z',h3,hf⟩:=M7 hf
  obtain⟨d,h4,hf⟩:=M8 hf
  cases hf
  refine⟨F,x,as,ds,_,R,h1,fun F1 H1 vs as1 X1 R1 A1=>?_⟩
  refine ho σ H F1 H1 _ _ _ vs Q R1.rel (DF A1) h3 fun F3 H3 w X3 R3 A3=>?_
  obtain⟨Y,R4⟩:=R1.pure0 X3 R3
  obtain⟨F4,Y4,R5,D⟩:=a_.toD Y R4 (fun _ z=>z) R1.hn A3 h4
  exact q F4 H3 w _ (X1.trans Y4) R5 D
theorem Fu{x:Str}{g:En→List Rv→Option Rv}(h:j4 X K x g)(hg:Gl X x)(hm:X.mg x=none)(ha:PA X (a::es) (Br K C fs))(hn:x≠"__name__")(hdb:(x==("__debug__":Str))=false){p:Pos}
    (he:Nq (a::es) X.env=(false,Nt a X.env)::Nq es X.env)(hpl:(ND pos (Nq es X.env)).any (·.1)=false):PE X (.Call (.Name x p) (a::es) [] pos) (iw K C (sT g fs)):=by
  rcases h.ex with ⟨id,r,h1,h2,h3⟩ | ⟨T,r,h1,h2,h3⟩
  · exact(oZ h1 hg hm h3 ha hn hdb he hpl).mono fun _ _ _ h=>rc h2 h
  · exact(qN h1 hg hm h3 ha hn hdb he hpl).mono fun _ _ _ h=>rc h2 h
def Ge(fa:XE)(lo hi:Option Int):XE:=fun x=>(fa x).bind fun p=>(GJ p.2.1 (.d p.1) lo hi).bind fun z=>(gO z).map fun d=>(d,p.2)
def bV(i:Nat)(f:Str):XE:=fun x=>match x.2.lookup (.s i) with
  | some (.dk fs)=>(fs.lookup f).map fun d=>(d,x)
  | _=>none
theorem cU{c:Lc}{o:Ob}:∀{ob:je},ob.lookup c=some o→(c,o)∈ob
  | [],h=>by cases h
  | (c0,o0)::r,h=>by
    rw [NU] at h
    cases k:c==c0 with
    | true=>
      rw [k] at h;cases h
      rw [eq_of_beq k];exact OZ
    | false=>
      rw [k] at h
      exact Ow _ (cU h)
theorem bQ{i:Nat}{x f:Str}{p:Pos}(hK:X.K=K)(cl:pY K C)(na:bx K C f)(ho:PE X (.Name x p) (pP i))(hb:Oy (.Name x p) f X.env (Nt (.Name x p) X.env)=Nt (.Name x p) X.env):PE X (.Attribute (.Name x p) f pos) (iw K C (bV i f)):=(Fd ho hb).mono fun σ H Q h=>by
  subst hK
  obtain⟨F,e,as,r,e',R,hf,q⟩:=h
  unfold bV at hf
  split at hf
  case h_2=>cases hf
  case h_1 fs hl=>
  obtain⟨d,h1,hf⟩:=M8 hf
  cases hf
  obtain⟨_,v,g1,g2⟩:=R.obs _ (cU hl)
  obtain⟨a,dx,gs,rfl,_,c1,c2,c3⟩:=g2
  obtain⟨u,d1,d2⟩:=c3.get h1
  exact⟨_,g1,a,C,dx,gs,u,rfl,c2,cl,na,d1,q F H u as bY.refl R d2⟩
end
inductive Gu where
  | nx (x:EX)
  | bk (x:EX)
  | ct (x:EX)
  | rt (r:Nf) (x:EX)
abbrev XS:=EX→Option Gu
def mB(K:Ng)(C:xM)(W:List Nat)(σ:L2.St)(F H:Hp)(e:En)(S:xM→Prop)(D:p4):Gu→Prop
  | .nx x=>∀F' H' σ' fp',bY W σ F H e S σ' F' H' x.1 (Fo x.2 fp')→a_ K C F' H' σ' x.1 x.2 fp'→D.nx σ' H'
  | .bk x=>∀F' H' σ' fp',bY W σ F H e S σ' F' H' x.1 (Fo x.2 fp')→a_ K C F' H' σ' x.1 x.2 fp'→D.bk σ' H'
  | .ct x=>∀F' H' σ' fp',bY W σ F H e S σ' F' H' x.1 (Fo x.2 fp')→a_ K C F' H' σ' x.1 x.2 fp'→D.ct σ' H'
  | .rt r x=>∀F' H' σ' v fp',bY W σ F H e S σ' F' H' x.1 (Fo x.2 fp')→a_ K C F' H' σ' x.1 x.2 fp'→DA K F' r v→D.rt v H'
def p7(K:Ng)(C:xM)(f:XS)(W:List Nat):TS:=fun D σ H=>∃F x fp fl,a_ K C F H σ x.1 x.2 fp∧f x=some fl∧mB K C W σ F H x.1 (Fo x.2 fp) D fl
theorem mB.later{K:Ng}{C:xM}{W W1 W2:List Nat}{σ σ1:L2.St}{F H F1 H1:Hp}{e e1:En}{S S1:xM→Prop}{D:p4}{fl:Gu}(h:mB K C W σ F H e S D fl)(x:bY W1 σ F H e S σ1 F1 H1 e1 S1)(h1:∀j,j∈W1→j∈W)(h2:∀j,j∈W2→j∈W):mB K C W2 σ1 F1 H1 e1 S1 D fl:=by
  cases fl with
  | nx e'=>exact fun F' H' σ' fp y R=>h F' H' σ' fp ((x.mono h1).trans (y.mono h2)) R
  | bk e'=>exact fun F' H' σ' fp y R=>h F' H' σ' fp ((x.mono h1).trans (y.mono h2)) R
  | ct e'=>exact fun F' H' σ' fp y R=>h F' H' σ' fp ((x.mono h1).trans (y.mono h2)) R
  | rt r e'=>exact fun F' H' σ' v fp y R A=>h F' H' σ' v fp ((x.mono h1).trans (y.mono h2)) R A
section
variable{X:Cx}{K:Ng}{C:xM}{W W1 W2:List Nat}{st:Nm}{cn bs cs:List Nm}{f g:XS}{f0:FS}{ft:XT}{fa:XE}{pos:Pos}{a c:Nh}
def jS(W:List Nat)(ob:je):Bool:=ob.all fun p=> !W.contains p.1.slot
theorem oX{ob:je}(h:jS W ob=true):∀p∈ob,p.1.slot∉W:=fun p hp z=>by
  have:=NV.mp h p hp
  simp [z] at this
def gp(W:List Nat)(f:FS):XS:=fun x=>if jS W x.2=true then(f x.1).bind fun fl=>match fl with
  | .nx e=>if okO x.2 e=true then some (.nx (e,x.2)) else none
  | .bk e=>if okO x.2 e=true then some (.bk (e,x.2)) else none
  | .ct e=>if okO x.2 e=true then some (.ct (e,x.2)) else none
  | .rt r e=>(gO r).bind fun d=>if okO x.2 e=true then some (.rt d (e,x.2)) else none else none
theorem BN{D:p4}{σ:L2.St}{H:Hp}(h:p7 K C (gp W f0) W D σ H):fS K f0 W D σ H:=by
  obtain⟨F,x,fp,fl,R,hf,q⟩:=h
  unfold gp at hf
  split at hf
  case isFalse=>cases hf
  case isTrue hw=>
  have hw':=oX hw
  obtain⟨fl1,h1,hf⟩:=M7 hf
  refine⟨F,x.1,fl1,R.rel,h1,?_⟩
  cases fl1 with
  | rt r e=>
    obtain⟨d,h2,hf⟩:=M7 hf
    split at hf
    case isFalse=>cases hf
    case isTrue ho=>
    cases hf
    intro F' H' σ' v X' R' A'
    obtain⟨Y,R2⟩:=R.next X' hw' ho R'
    obtain⟨F2,Y2,R3,A⟩:=a_.toD Y R2 (fun _ z=>z) R.hn A' h2
    exact q F2 H' σ' v fp Y2 R3 A
  | nx e=>
    dsimp only at hf
    split at hf
    case isFalse=>cases hf
    case isTrue ho=>
    cases hf
    intro F' H' σ' X' R'
    obtain⟨Y,R2⟩:=R.next X' hw' ho R'
    exact q F' H' σ' fp Y R2
  | bk e=>
    dsimp only at hf
    split at hf
    case isFalse=>cases hf
    case isTrue ho=>
    cases hf
    intro F' H' σ' X' R'
    obtain⟨Y,R2⟩:=R.next X' hw' ho R'
    exact q F' H' σ' fp Y R2
  | ct e=>
    dsimp only at hf
    split at hf
    case isFalse=>cases hf
    case isTrue ho=>
    cases hf
    intro F' H' σ' X' R'
    obtain⟨Y,R2⟩:=R.next X' hw' ho R'
    exact q F' H' σ' fp Y R2
theorem pe(h:PS X st (fS K f0 W)):PS X st (p7 K C (gp W f0) W):=h.mono fun _ _ _ h=>BN h
def cG:XS:=fun x=>some (.nx x)
def a9(f g:XS):XS:=fun x=>(f x).bind fun fl=>match fl with
  | .nx x1=>g x1
  | fl=>some fl
theorem dM:jh X [] (p7 K C cG []):=wH.mono fun D σ H h=>by
  obtain⟨F,x,fp,fl,R,hf,q⟩:=h
  cases hf
  exact q F H σ fp bY.refl R
theorem aR(h1:PS X st (p7 K C f W1))(h2:jh X cn (p7 K C g W2)):jh X (st::cn) (p7 K C (a9 f g) (W1++W2)):=(ly h1 h2).mono fun D σ H h=>by
  obtain⟨F,e,fp,fl,R,hf,q⟩:=h
  unfold a9 at hf
  obtain⟨fl1,h1,hf⟩:=M7 hf
  have s1:∀j,j∈W1→j∈W1++W2:=fun j h=>Ov.mpr (.inl h)
  have s2:∀j,j∈W2→j∈W1++W2:=fun j h=>Ov.mpr (.inr h)
  refine⟨F,e,fp,fl1,R,h1,?_⟩
  cases fl1 with
  | nx e1=>exact fun F' H' σ' fp' x R'=>⟨F',e1,fp',fl,R',hf,q.later x s1 s2⟩
  | bk e1=>cases hf;exact fun F' H' σ' fp' x R'=>q F' H' σ' fp' (x.mono s1) R'
  | ct e1=>cases hf;exact fun F' H' σ' fp' x R'=>q F' H' σ' fp' (x.mono s1) R'
  | rt r e1=>cases hf;exact fun F' H' σ' v fp' x R' A=>q F' H' σ' v fp' (x.mono s1) R' A
theorem aY(h1:PS X st (p7 K C f W)):jh X [st] (p7 K C f W):=sD h1
def eQ(ft:XT)(f g:XS):XS:=fun e=>(ft e).bind fun p=>if p.1=true then f p.2 else g p.2
theorem gk(hc:PT X c (sW K C ft))(ha:jh X bs (p7 K C f W1))(hb:jh X cs (p7 K C g W2)):PS X (.If c bs cs pos) (p7 K C (eQ ft f g) (W1++W2)):=(Du hc ha hb).mono fun D σ H h=>by
  obtain⟨F,e,fp,fl,R,hf,q⟩:=h
  unfold eQ at hf
  obtain⟨⟨x,e1⟩,h1,hf⟩:=M7 hf
  refine⟨F,e,fp,x,e1,R,h1,fun F1 H1 fp1 X1 R1=>?_⟩
  cases x with
  | true=>exact⟨F1,e1,fp1,fl,R1,hf,q.later (W1:=[]) X1 (fun j h=>by cases h) fun j h=>Ov.mpr (.inl h)⟩
  | false=>exact⟨F1,e1,fp1,fl,R1,hf,q.later (W1:=[]) X1 (fun j h=>by cases h) fun j h=>Ov.mpr (.inr h)⟩
def bH(fa:XE):XS:=fun e=>(fa e).map fun p=>.rt p.1 p.2
theorem cm(he:PE X a (iw K C fa)):PS X (.Return (some a) pos) (p7 K C (bH fa) []):=(vK he).mono fun D σ H h=>by
  obtain⟨F,e,fp,fl,R,hf,q⟩:=h
  obtain⟨⟨x,e1⟩,h1,hf⟩:=M8 hf
  cases hf
  exact⟨F,e,fp,x,e1,R,h1,fun F1 H1 v fp1 X1 R1 A1=>q F1 H1 σ v fp1 X1 R1 A1⟩
def lH(i:Nat)(fa:XE):XS:=fun x=>(fa x).bind fun p=>if jS [i] p.2.2=true then some (.nx (p.2.1.set i (some (.d p.1)),p.2.2)) else none
theorem a_.setD{F H:Hp}{σ:L2.St}{e:En}{ob:je}{fp:Lc→List xM}{i:Nat}{x:Nf}{v:V}(R:a_ K C F H σ e ob fp)(h:DA K F x v)(hw:jS [i] ob=true):
    bY [i] σ F H e (Fo ob fp) (σ.set i (some v)) F H (e.set i (some (.d x))) (Fo ob fp)∧a_ K C F H (σ.set i (some v)) (e.set i (some (.d x))) ob fp:=by
  have hw':=oX hw
  obtain⟨R2,o2⟩:=R.rel.setD i h
  have ne:∀p∈ob,i≠p.1.slot:=fun p hp z=>hw' p hp (by rw [z];simp)
  refine⟨⟨ao.refl _,fun _ z=>z,fun _ _ z _ _ _=>z,fun _ vs z=>⟨vs,z⟩,fun _ _ z _ _=>z,fun a z=>.inl (z.imp_left (o2 a)),fun j n=>NC (fun z=>n (by simp [z])),fun _ _ z _ _ _=>z⟩,R2,fun p hp=>?_,R.dis,fun a ha z=>R.own a ha (o2 a z)⟩
  obtain⟨c1,u,c2,c3⟩:=R.obs p hp
  exact⟨by rw [NC (ne p hp)];exact c1,u,c2.mono (ao.refl _) (NC (ne p hp)),c3⟩
theorem sJ{i:Nat}{x:Str}{pos':Pos}(hN:X.N.Nodup)(hi:X.N[i]?=some x)(hx:yj X.env.scope x)(he:PE X a (iw K C fa))(hs:Pa a (some (.Name x pos')) pos.line X.env=pure false)(hf:X.fn x=true∨X.env.scope.names.lookup x=some .local):
    PS X (.Assign [.Name x pos'] a pos) (p7 K C (lH i fa) [i]):=(o_ hN hi hx he hs hf).mono fun D σ H h=>by
  obtain⟨F,e,fp,fl,R,hf,q⟩:=h
  unfold lH at hf
  obtain⟨⟨r,e1⟩,h1,hf⟩:=M7 hf
  split at hf
  case isFalse=>cases hf
  case isTrue hw=>
  cases hf
  refine⟨F,e,fp,r,e1,R,h1,fun F1 H1 v fp1 X1 R1 A1=>?_⟩
  obtain⟨Y,R2⟩:=R1.setD A1 hw
  exact q F1 H1 _ fp1 ((X1.mono (fun j h=>by cases h)).trans Y) R2
def pL(c:Lc)(o:Ob)(ob:je):je:=ob.map fun p=>if p.1=c then(p.1,o) else p
theorem jz{c:Lc}{o:Ob}{ob:je}{p:Lc × Ob}:p∈pL c o ob↔ ∃q∈ob,p.1=q.1∧(if q.1=c then p.2=o else p.2=q.2):=by
  unfold pL
  rw [PZ]
  constructor
  · rintro⟨q,h1,h2⟩
    refine⟨q,h1,?_⟩
    split at h2
    · rename_i z;subst h2;exact⟨rfl,by rw [if_pos z]⟩
    · rename_i z;subst h2;exact⟨rfl,by rw [if_neg z]⟩
  · rintro⟨q,h1,h2,h3⟩
    refine⟨q,h1,?_⟩
    obtain⟨p1,p2⟩:=p
    dsimp only at h2 h3
    split at h3
    · rename_i z;rw [if_pos z,h3,h2]
    · rename_i z;rw [if_neg z,h2,h3]
theorem a_.put{F H F' H':Hp}{σ:L2.St}{e:En}{ob:je}{fp:Lc→List xM}{c:Lc}{o:Ob}{fs:List xM}(R:a_ K C F H σ e ob fp)(hc:∃u,(c,u)∈ob)(sF:ao F F')(sm:ao F' H')(dom:∀a,H' a=none→H a=none)(lst:∀a vs,H a=some (.lst vs)→∃vs',H' a=some (.lst vs'))
    (tmp:∀a u,H a=some u→a∉fp c→H' a=some u)(fr:∀a,F a=none→(∃u,H a=some u∧(kept u=true∨Dn u=true))→a∉fp c→F' a=none)(hfs:∀a∈fs,a∈fp c∨H a=none)(ho:∀v,lR K F σ c v→(∃u,mZ K C F H u v (fp c))→mZ K C F' H' o v fs):
    bY [] σ F H e (Fo ob fp) σ F' H' e (Fo (pL c o ob) fun d=>if d=c then fs else fp d)∧a_ K C F' H' σ e (pL c o ob) fun d=>if d=c then fs else fp d:=by
  obtain⟨u,hu⟩:=hc
  have nc:∀a,bz σ e H a→a∉fp c:=fun a h z=>R.own a ⟨_,hu,z⟩ h
  obtain⟨R2,o2⟩:=R.rel.keep sF sm (fun a h=>by
    obtain⟨i,hi⟩:=h
    obtain⟨h1,vs,h2⟩:=R.rel.fpAt hi
    exact fr a h1 ⟨_,h2,.inl rfl⟩ (nc a ⟨i,hi⟩)) (fun a o h q=>tmp a o q (nc a h))
  have sub:∀a,Fo (pL c o ob) (fun d=>if d=c then fs else fp d) a→Fo ob fp a∨H a=none:=by
    rintro a ⟨p,hp,ha⟩
    obtain⟨q,h1,h2,h3⟩:=jz.mp hp
    rw [h2] at ha
    by_cases z:q.1=c
    · simp only [if_pos z] at ha
      rcases hfs a ha with w | w
      · exact .inl ⟨_,hu,w⟩
      · exact .inr w
    · simp only [if_neg z] at ha
      exact .inl ⟨q,h1,ha⟩
  refine⟨⟨sF,dom,fun a vs h1 h2 _ h4=>fr a h1 ⟨_,h2,.inl rfl⟩ fun z=>h4 ⟨_,hu,z⟩,lst,fun a u h1 _ h3=>tmp a u h1 fun z=>h3 ⟨_,hu,z⟩,fun a z=>?_,fun _ _=>rfl,fun a m h1 h2 _ h4=>fr a h1 ⟨_,h2,.inr m.2⟩ fun z=>h4 ⟨_,hu,z⟩⟩,R2,fun p hp=>?_,?_,fun a ha z=>?_⟩
  · rcases z with z | z
    · exact .inl (.inl ((o2 a).mp z))
    · exact(sub a z).imp_left .inr
  · obtain⟨q,h1,h2,h3⟩:=jz.mp hp
    obtain⟨c1,v,c2,c3⟩:=R.obs q h1
    rw [h2]
    refine⟨c1,v,c2.mono sF rfl,?_⟩
    by_cases z:q.1=c
    · rw [if_pos z] at h3
      simp only [if_pos z,h3]
      exact ho v (by rw [←z];exact c2) ⟨_,by rw [←z];exact c3⟩
    · rw [if_neg z] at h3
      simp only [if_neg z,h3]
      have nq:∀a∈fp q.1,a∉fp c:=fun a ha=>R.dis q h1 (c,u) hu z a ha
      refine c3.mono sF (fun a ha=>?_) fun a ha=>?_
      · obtain⟨g1,w,g2,g3⟩:=R.at ⟨q,h1,ha⟩
        exact fr a g1 ⟨w,g2,.inl g3⟩ (nq a ha)
      · obtain⟨g1,w,g2,g3⟩:=R.at ⟨q,h1,ha⟩
        rw [g2];exact tmp a w g2 (nq a ha)
  · intro p hp q hq hne a ha
    obtain⟨p0,h1,h2,_⟩:=jz.mp hp
    obtain⟨q0,g1,g2,_⟩:=jz.mp hq
    rw [h2] at ha hne
    rw [g2] at hne
    rw [g2]
    by_cases z:p0.1=c
    · simp only [if_pos z] at ha
      have z2:q0.1≠c:=fun z2=>hne (z.trans z2.symm)
      simp only [if_neg z2]
      intro w
      rcases hfs a ha with k | k
      · exact R.dis q0 g1 (c,u) hu z2 a w k
      · exact R.hn a ⟨q0,g1,w⟩ k
    · simp only [if_neg z] at ha
      by_cases z2:q0.1=c
      · simp only [if_pos z2]
        intro w
        rcases hfs a w with k | k
        · exact R.dis p0 h1 (c,u) hu z a ha k
        · exact R.hn a ⟨p0,h1,ha⟩ k
      · simp only [if_neg z2]
        exact R.dis p0 h1 q0 g1 hne a ha
  · rcases sub a ha with w | w
    · exact R.own a w ((o2 a).mp z)
    · exact R.rel.ownH a ((o2 a).mp z) w
def e6(i:Nat)(f:Str)(fa:XE):XS:=fun x=>(fa x).bind fun p=>match p.2.2.lookup (.s i) with
  | some (.dk fs)=>if fs.length < 900 then some (.nx (p.2.1,pL (.s i) (.dk (lz f p.1 fs)) p.2.2)) else none
  | _=>none
theorem gH{i:Nat}{x f:Str}{p pos':Pos}(hK:X.K=K)(cl:pY K C)(na:bx K C f)(ho:PE X (.Name x p) (pP i))(hv:PE X a (iw K C fa))(hs:Pa a (some (.Attribute (.Name x p) f pos')) pos.line X.env=pure false):
    PS X (.Assign [.Attribute (.Name x p) f pos'] a pos) (p7 K C (e6 i f fa) []):=(Fj ho hv hs).mono fun D σ H h=>by
  subst hK
  obtain⟨F,e,fp,fl,R,hf,q⟩:=h
  unfold e6 at hf
  obtain⟨⟨r,e1⟩,h1,hf⟩:=M7 hf
  dsimp only at hf
  split at hf
  case h_2=>cases hf
  case h_1 fs hl=>
  split at hf
  case isFalse=>cases hf
  case isTrue hlen=>
  cases hf
  refine⟨F,e,fp,r,e1,R,h1,fun F1 H1 v fp1 X1 R1 A1=>?_⟩
  have hm:=cU hl
  obtain⟨_,u,g1,g2⟩:=R1.obs _ hm
  have g2':=g2
  obtain⟨a,dx,gs,rfl,ha,c1,c2,c3⟩:=g2
  refine⟨_,g1,a,C,dx,gs,rfl,c2,cl,na,by rw [c3.len];lia,?_⟩
  dsimp only at ha
  obtain⟨Y,R2⟩:=R1.put (c:=.s i) (o:=.dk (lz f r fs)) (fs:=[a]) (F':=F1) (H':=bw H1 a (.ins C dx (h8 f v gs))) ⟨_,hm⟩ (ao.refl _)
    (fun b o z=>by
      have:b≠a:=fun w=>by rw [w,c1] at z;cases z
      rw [av this];exact R1.rel.sm b o z)
    (fun b z=>by
      by_cases w:b=a
      · rw [w,ar] at z;cases z
      · rw [av w] at z;exact z)
    (fun b vs z=>⟨vs,by
      have:b≠a:=fun w=>by rw [w,c2] at z;cases z
      rw [av this];exact z⟩)
    (fun b u z w=>by
      rw [ha] at w
      have:b≠a:=fun k=>w (by simp [k])
      rw [av this];exact z)
    (fun b z _ _=>z) (fun b hb=>.inl (by rw [ha];exact hb))
    (fun v' g1' _=>by
      have g1:σ[i]?=_:=g1
      have g1':σ[i]?=_:=g1'
      rw [g1] at g1';cases g1'
      exact⟨a,dx,_,rfl,rfl,c1,ar,c3.put A1⟩)
  exact q F1 _ σ _ (X1.trans Y) R2
end
section
variable{K:Ng}{C:xM}{F H F' H':Hp}{σ:L2.St}{e:En}{ob ob':je}{fp fp':Lc→List xM}
theorem a_.putM(R:a_ K C F H σ e ob fp)(T:Lc→Prop)(hT:∀c,T c→∃u,(c,u)∈ob)(hob:∀p∈ob',∃q∈ob,p.1=q.1∧(¬T q.1→p.2=q.2))(hfp:∀c,¬T c→fp' c=fp c)(sF:ao F F')(sm:ao F' H')(dom:∀a,H' a=none→H a=none)(lst:∀a vs,H a=some (.lst vs)→∃vs',H' a=some (.lst vs'))
    (tmp:∀a u,H a=some u→(∀c,T c→a∉fp c)→H' a=some u)(fr:∀a,F a=none→(∃u,H a=some u∧(kept u=true∨Dn u=true))→(∀c,T c→a∉fp c)→F' a=none)(hfs:∀c,T c→∀a∈fp' c,(∃d,T d∧a∈fp d)∨H a=none)
    (hdis:∀c d,T c→T d→c≠d→∀a∈fp' c,a∉fp' d)(ho:∀p∈ob',T p.1→∀v,lR K F σ p.1 v→mZ K C F' H' p.2 v (fp' p.1)):
    bY [] σ F H e (Fo ob fp) σ F' H' e (Fo ob' fp')∧a_ K C F' H' σ e ob' fp':=by
  have nc:∀a,bz σ e H a→∀c,T c→a∉fp c:=fun a h c hc z=>let ⟨u,hu⟩:=hT c hc;R.own a ⟨_,hu,z⟩ h
  have nf:∀a,¬Fo ob fp a→∀c,T c→a∉fp c:=fun a h c hc z=>let ⟨u,hu⟩:=hT c hc;h ⟨_,hu,z⟩
  obtain⟨R2,o2⟩:=R.rel.keep sF sm (fun a h=>by
    obtain⟨i,hi⟩:=h
    obtain⟨h1,vs,h2⟩:=R.rel.fpAt hi
    exact fr a h1 ⟨_,h2,.inl rfl⟩ (nc a ⟨i,hi⟩)) (fun a o h q=>tmp a o q (nc a h))
  have sub:∀a,Fo ob' fp' a→Fo ob fp a∨H a=none:=by
    rintro a ⟨p,hp,ha⟩
    obtain⟨q,h1,h2,h3⟩:=hob p hp
    rw [h2] at ha
    by_cases z:T q.1
    · rcases hfs _ z a ha with ⟨d,w,k⟩ | w
      · obtain⟨u,hu⟩:=hT d w
        exact .inl ⟨_,hu,k⟩
      · exact .inr w
    · rw [hfp _ z] at ha
      exact .inl ⟨q,h1,ha⟩
  have dj:∀q∈ob,¬T q.1→∀a∈fp q.1,∀c,T c→a∉fp c:=fun q hq nT a ha c hc=>by
    obtain⟨u,hu⟩:=hT c hc
    exact R.dis q hq _ hu (fun z=>nT (by rw [z];exact hc)) a ha
  refine⟨⟨sF,dom,fun a vs h1 h2 _ h4=>fr a h1 ⟨_,h2,.inl rfl⟩ (nf a h4),lst,fun a u h1 _ h3=>tmp a u h1 (nf a h3),fun a z=>?_,fun _ _=>rfl,fun a m h1 h2 _ h4=>fr a h1 ⟨_,h2,.inr m.2⟩ (nf a h4)⟩,R2,fun p hp=>?_,?_,fun a ha z=>?_⟩
  · rcases z with z | z
    · exact .inl (.inl ((o2 a).mp z))
    · exact(sub a z).imp_left .inr
  · obtain⟨q,h1,h2,h3⟩:=hob p hp
    obtain⟨c1,v,c2,c3⟩:=R.obs q h1
    rw [h2]
    refine⟨c1,v,c2.mono sF rfl,?_⟩
    by_cases z:T q.1
    · have:=ho p hp (by rw [h2];exact z) v (by rw [h2];exact c2)
      rw [h2] at this
      exact this
    · rw [h3 z,hfp _ z]
      have nq:=dj q h1 z
      refine c3.mono sF (fun a ha=>?_) fun a ha=>?_
      · obtain⟨g1,w,g2,g3⟩:=R.at ⟨q,h1,ha⟩
        exact fr a g1 ⟨w,g2,.inl g3⟩ (nq a ha)
      · obtain⟨g1,w,g2,g3⟩:=R.at ⟨q,h1,ha⟩
        rw [g2];exact tmp a w g2 (nq a ha)
  · intro p hp q hq hne a ha
    obtain⟨p0,h1,h2,_⟩:=hob p hp
    obtain⟨q0,g1,g2,_⟩:=hob q hq
    rw [h2] at ha hne
    rw [g2] at hne
    rw [g2]
    by_cases z:T p0.1
    · by_cases z2:T q0.1
      · exact hdis _ _ z z2 hne a ha
      · rw [hfp _ z2]
        intro w
        rcases hfs _ z a ha with ⟨d,k,k2⟩ | k
        · exact dj q0 g1 z2 a w d k k2
        · exact R.hn a ⟨q0,g1,w⟩ k
    · rw [hfp _ z] at ha
      by_cases z2:T q0.1
      · intro w
        rcases hfs _ z2 a w with ⟨d,k,k2⟩ | k
        · exact dj p0 h1 z a ha d k k2
        · exact R.hn a ⟨p0,h1,ha⟩ k
      · rw [hfp _ z2]
        exact R.dis p0 h1 q0 g1 hne a ha
  · rcases sub a ha with w | w
    · exact R.own a w ((o2 a).mp z)
    · exact R.rel.ownH a ((o2 a).mp z) w
theorem a_.beside(R:a_ K C F H σ e ob fp)(sF:ao F F')(sm:ao F' H')(dom:∀a,H' a=none→H a=none)(lst:∀a vs,H a=some (.lst vs)→∃vs',H' a=some (.lst vs'))(tmp:∀a u,H a=some u→H' a=some u)
    (fr:∀a,F a=none→(∃u,H a=some u∧(kept u=true∨Dn u=true))→F' a=none):bY [] σ F H e (Fo ob fp) σ F' H' e (Fo ob fp)∧a_ K C F' H' σ e ob fp:=
  R.putM (ob':=ob) (fp':=fp) (fun _=>False) (fun _ h=>h.elim) (fun p hp=>⟨p,hp,rfl,fun _=>rfl⟩) (fun _ _=>rfl) sF sm dom lst (fun a u h _=>tmp a u h) (fun a h1 h2 _=>fr a h1 h2) (fun _ h=>h.elim) (fun _ _ h=>h.elim) (fun _ _ h=>h.elim)
theorem qK{ds:List Nf}{i:Nat}{s:Sv}(h:((ds.map Sv.d).map some)[i]?=some (some s)):∃x,ds[i]?=some x∧s=.d x:=by
  rw [NT,NT] at h
  cases q:ds[i]? with
  | none=>rw [q] at h;cases h
  | some x=>rw [q] at h;cases h;exact⟨x,rfl,rfl⟩
theorem lp{ds:List Nf}{σ:L2.St}{a:xM}:¬bz σ ((ds.map Sv.d).map some) H a:=by
  rintro⟨i,⟨xs,h,_⟩ | ⟨xss,_,_,h,_⟩⟩
  · obtain⟨x,_,z⟩:=qK h;cases z
  · obtain⟨x,_,z⟩:=qK h;cases z
theorem HF(s:ao F H){ds:List Nf}{vs:List V}(h:aQ K F ds vs):aW K F H (vs.map some) ((ds.map Sv.d).map some):=by
  refine⟨s,by simp [h.len],fun i x hx=>?_,fun i xs hx=>?_,fun i xss hx=>?_,fun i j a hi _=>absurd ⟨i,hi⟩ lp⟩
  · obtain⟨y,h1,h2⟩:=qK hx
    cases h2
    obtain⟨v,g1,g2⟩:=h.get h1
    exact⟨v,by rw [NT,g1];rfl,g2⟩
  · obtain⟨x,_,z⟩:=qK hx;cases z
  · obtain⟨x,_,z⟩:=qK hx;cases z
end
section
variable{X:Cx}{K:Ng}{C:xM}{fs:XA}{a:Nh}{es:List Nh}{pos:Pos}{σ:L2.St}{H:Hp}
def nv(n:Nat)(m:FM)(fs:XA):XE:=fun x=>(fs x).bind fun p=>(m (p.1.map .d)).bind fun z=>if p.1.length=n∧sr z.1=true then(gO z.1).map fun d=>(d,p.2) else none
theorem xg{n:Nat}{m:FM}{Q:VK}{E:XK}(h:iw K C (nv n m fs) σ H Q):qX (dw K n m) [] E (Br K C fs) σ H Q:=by
  obtain⟨F,x,fp,z,x',R,hf,q⟩:=h
  unfold nv at hf
  obtain⟨⟨ds,x1⟩,h1,hf⟩:=M7 hf
  obtain⟨⟨r,as'⟩,h2,hf⟩:=M7 hf
  split at hf
  case isFalse=>cases hf
  case isTrue hc=>
  obtain⟨d,h3,hf⟩:=M8 hf
  cases hf
  refine⟨F,x,fp,ds,_,R,h1,fun F1 H1 vs fp1 X1 R1 A1=>?_⟩
  show dw K n m (vs++[]) H1 Q E
  rw [OP]
  have hn:noS r:=by
    have:=hc.2
    cases r with
    | s i=>cases this
    | _=>trivial
  refine⟨by rw [←A1.len];exact hc.1,F1,ds.map .d,r,as',HF R1.rel.sm A1,fun i xss z=>(by obtain⟨x,_,z⟩:=qK z;cases z),h2,hn,fun F' H' v X3 R3 A3=>?_⟩
  have stay:∀a u,H1 a=some u→H' a=some u:=fun a u hu=>X3.tmp a u hu lp
  obtain⟨Y,R4⟩:=R1.beside X3.sf R3.sm X3.dom X3.lst stay fun a g1 ⟨u,g2,g3⟩=>by
    by_cases k:Dn u=true
    · exact X3.fd a ⟨u,k⟩ g1 g2 lp
    · rcases g3 with g3 | g3
      · cases u with
        | lst vs=>exact X3.fr a vs g1 g2 lp
        | ins c d fs=>exact absurd rfl k
        | _=>cases g3
      · exact absurd g3 k
  have ow:∀a,bz σ x1.1 H' a→H1 a≠none:=fun a z=>by
    rcases Y.own a (.inl z) with (w | w) | w
    · exact R1.rel.ownH a w
    · exact R1.hn a w
    · intro _
      exact R4.own a |> fun _=>by
        obtain⟨i,hi⟩:=z
        have:=(R1.rel.keep X3.sf R3.sm (fun a ⟨i,h⟩=>by
          obtain⟨c1,vs,c2⟩:=R1.rel.fpAt h
          exact X3.fr a vs c1 c2 lp) fun a o _ h=>stay a o h).2 a
        exact R1.rel.ownH a (this.mp ⟨i,hi⟩) w
  obtain⟨F4,Y4,R5,D⟩:=a_.toD Y R4 (fun _ z=>z) R1.hn (A3.noS hn ow) h3
  exact q F4 H' v _ (X1.trans Y4) R5 D
theorem Fv{x:Str}{st:Nm}{f:xM}{fd:Nx}{ps:List Str}{k n:Nat}{m:FM}{p:Pos}(h:dA X.K X.mg x st f fd ps)(G:aG X.prog X.w X.K X.mg X.base cc k f fd ps (dw K n m))(hr:bK k X.A)(ha:PA X (a::es) (Br K C fs))
    (hg:Gl X x)(hdb:(x==("__debug__":Str))=false)(he:Nq (a::es) X.env=(false,Nt a X.env)::Nq es X.env)(hpl:(ND pos (Nq es X.env)).any (·.1)=false):
    PE X (.Call (.Name x p) (a::es) [] pos) (iw K C (nv n m fs)):=(Fc h G hr ha hg hdb he hpl).mono fun _ _ _ h=>xg h
end
abbrev Ar:=Lc ⊕ Nf
abbrev XR:=EX→Option (List Ar × EX)
def j3(K:Ng)(F:Hp)(σ:L2.St):List Ar→List V→Prop
  | [],vs=>vs=[]
  | .inl c::r,vs=>∃v ws,vs=v::ws∧lR K F σ c v∧j3 K F σ r ws
  | .inr d::r,vs=>∃v ws,vs=v::ws∧DA K F d v∧j3 K F σ r ws
section
variable{K:Ng}{C:xM}{F H F' H':Hp}{σ:L2.St}{e:En}{ob ob' oc:je}{fp fp':Lc→List xM}
theorem j3.len:∀{rs:List Ar} {vs:List V},j3 K F σ rs vs→rs.length=vs.length
  | [],vs,h=>by rw [show vs=[] from h];rfl
  | .inl c::r,_,⟨v,ws,e,h1,h2⟩=>by rw [e];simp [j3.len h2]
  | .inr d::r,_,⟨v,ws,e,h1,h2⟩=>by rw [e];simp [j3.len h2]
theorem j3.d:∀{rs:List Ar} {vs:List V} {k:Nat} {d:Nf},j3 K F σ rs vs→rs[k]?=some (.inr d)→∃v,vs[k]?=some v∧DA K F d v
  | [],_,k,d,_,h=>by simp at h
  | .inl c::r,_,k,d,⟨v,ws,e,h1,h2⟩,h=>by
    subst e
    cases k with
    | zero=>simp at h
    | succ k=>simpa using j3.d h2 (by simpa using h)
  | .inr d'::r,_,k,d,⟨v,ws,e,h1,h2⟩,h=>by
    subst e
    cases k with
    | zero=>simp at h;subst h;exact⟨v,rfl,h1⟩
    | succ k=>simpa using j3.d h2 (by simpa using h)
theorem j3.c:∀{rs:List Ar} {vs:List V} {k:Nat} {c:Lc},j3 K F σ rs vs→rs[k]?=some (.inl c)→∃v,vs[k]?=some v∧lR K F σ c v
  | [],_,k,d,_,h=>by simp at h
  | .inl c'::r,_,k,c,⟨v,ws,e,h1,h2⟩,h=>by
    subst e
    cases k with
    | zero=>simp at h;subst h;exact⟨v,rfl,h1⟩
    | succ k=>simpa using j3.c h2 (by simpa using h)
  | .inr d'::r,_,k,c,⟨v,ws,e,h1,h2⟩,h=>by
    subst e
    cases k with
    | zero=>simp at h
    | succ k=>simpa using j3.c h2 (by simpa using h)
end
def pZ(rs:List Ar):En:=rs.map fun r=>match r with
  | .inl _=>none
  | .inr d=>some (.d d)
def m_(ob:je):Nat→List Ar→Option je
  | _,[]=>some []
  | k,.inl c::r=>(ob.lookup c).bind fun o=>(m_ ob (k+1) r).map ((Lc.s k,o)::·)
  | k,.inr _::r=>m_ ob (k+1) r
def jn(oc:je):Nat→List Ar→je→Option je
  | _,[],ob=>some ob
  | k,.inl c::r,ob=>(oc.lookup (.s k)).bind fun o=>jn oc (k+1) r (pL c o ob)
  | k,.inr _::r,ob=>jn oc (k+1) r ob
def locs:List Ar→List Lc
  | []=>[]
  | .inl c::r=>c::locs r
  | .inr _::r=>locs r
theorem hV{c:Lc}:∀{rs:List Ar},c∈locs rs↔ ∃k:Nat,rs[k]?=some (Sum.inl c)
  | []=>by simp [locs]
  | .inl d::r=>by
    simp only [locs,OJ,hV (rs:=r)]
    constructor
    · rintro(rfl | ⟨k,h⟩)
      · exact⟨0,rfl⟩
      · exact⟨k+1,by simpa using h⟩
    · rintro⟨k,h⟩
      cases k with
      | zero=>simp at h;exact .inl h.symm
      | succ k=>exact .inr ⟨k,by simpa using h⟩
  | .inr d::r=>by
    simp only [locs,hV (rs:=r)]
    constructor
    · rintro⟨k,h⟩
      exact⟨k+1,by simpa using h⟩
    · rintro⟨k,h⟩
      cases k with
      | zero=>simp at h
      | succ k=>exact⟨k,by simpa using h⟩
theorem jO{c:Lc}:∀{rs:List Ar} {k j:Nat},(locs rs).Nodup→rs[k]?=some (.inl c)→rs[j]?=some (.inl c)→k=j
  | [],k,j,_,h,_=>by simp at h
  | .inl d::r,k,j,hn,h1,h2=>by
    simp only [locs,Pp] at hn
    cases k with
    | zero=>
      simp at h1;subst h1
      cases j with
      | zero=>rfl
      | succ j=>exact absurd (hV.mpr ⟨j,by simpa using h2⟩) hn.1
    | succ k=>
      cases j with
      | zero=>simp at h2;subst h2;exact absurd (hV.mpr ⟨k,by simpa using h1⟩) hn.1
      | succ j=>exact congrArg (· +1) (jO hn.2 (by simpa using h1) (by simpa using h2))
  | .inr d::r,k,j,hn,h1,h2=>by
    cases k with
    | zero=>simp at h1
    | succ k=>
      cases j with
      | zero=>simp at h2
      | succ j=>exact congrArg (· +1) (jO (rs:=r) hn (by simpa using h1) (by simpa using h2))
theorem hZ{ob:je}{p:Lc × Ob}:∀{rs:List Ar} {k:Nat} {oc:je},m_ ob k rs=some oc→p∈oc→∃j c,p.1=.s (k+j)∧rs[j]?=some (.inl c)∧ob.lookup c=some p.2
  | [],k,oc,h,hp=>by cases h;cases hp
  | .inl c::r,k,oc,h,hp=>by
    obtain⟨o,h1,h⟩:=M7 h
    obtain⟨oc',h2,rfl⟩:=M8 h
    rcases Na hp with rfl | hp
    · exact⟨0,c,rfl,rfl,h1⟩
    · obtain⟨j,d,g1,g2,g3⟩:=hZ h2 hp
      exact⟨j+1,d,by rw [g1];congr 1;lia,by simpa using g2,g3⟩
  | .inr d::r,k,oc,h,hp=>by
    obtain⟨j,d,g1,g2,g3⟩:=hZ (rs:=r) (k:=k+1) h hp
    exact⟨j+1,d,by rw [g1];congr 1;lia,by simpa using g2,g3⟩
theorem oV{ob:je}:∀{rs:List Ar} {k j:Nat} {oc:je} {c:Lc},m_ ob k rs=some oc→rs[j]?=some (.inl c)→∃o,ob.lookup c=some o∧(Lc.s (k+j),o)∈oc
  | [],k,j,oc,c,h,hj=>by simp at hj
  | .inl d::r,k,j,oc,c,h,hj=>by
    obtain⟨o,h1,h⟩:=M7 h
    obtain⟨oc',h2,rfl⟩:=M8 h
    cases j with
    | zero=>simp at hj;subst hj;exact⟨o,h1,OZ⟩
    | succ j=>
      obtain⟨o',g1,g2⟩:=oV (j:=j) h2 (by simpa using hj)
      refine⟨o',g1,Ow _ ?_⟩
      rw [show k+(j+1)=k+1+j by lia];exact g2
  | .inr d::r,k,j,oc,c,h,hj=>by
    cases j with
    | zero=>simp at hj
    | succ j=>
      obtain⟨o',g1,g2⟩:=oV (rs:=r) (k:=k+1) (j:=j) h (by simpa using hj)
      refine⟨o',g1,?_⟩
      rw [show k+(j+1)=k+1+j by lia];exact g2
theorem jK{oc:je}{p:Lc × Ob}:∀{rs:List Ar} {k:Nat} {ob ob':je},jn oc k rs ob=some ob'→p∈ob'→∃q∈ob,p.1=q.1∧((p.1∉locs rs∧p.2=q.2)∨∃j,rs[j]?=some (.inl p.1)∧oc.lookup (.s (k+j))=some p.2)
  | [],k,ob,ob',h,hp=>by cases h;exact⟨p,hp,rfl,.inl ⟨by simp [locs],rfl⟩⟩
  | .inl c::r,k,ob,ob',h,hp=>by
    obtain⟨o,h1,h⟩:=M7 h
    obtain⟨q,g1,g2,g3⟩:=jK h hp
    obtain⟨q',d1,d2,d3⟩:=jz.mp g1
    refine⟨q',d1,g2.trans d2,?_⟩
    rcases g3 with ⟨g3,g4⟩ | ⟨j,g3,g4⟩
    · by_cases z:q'.1=c
      · rw [if_pos z] at d3
        refine .inr ⟨0,?_,?_⟩
        · rw [g2,d2,z];rfl
        · rw [g4,d3];exact h1
      · rw [if_neg z] at d3
        refine .inl ⟨?_,g4.trans d3⟩
        simp only [locs,OJ]
        rintro(w | w)
        · exact z (by rw [←d2,←g2];exact w)
        · exact g3 w
    · exact .inr ⟨j+1,by simpa using g3,by rw [show k+(j+1)=k+1+j by lia];exact g4⟩
  | .inr d::r,k,ob,ob',h,hp=>by
    obtain⟨q,g1,g2,g3⟩:=jK (rs:=r) (k:=k+1) h hp
    refine⟨q,g1,g2,?_⟩
    rcases g3 with ⟨g3,g4⟩ | ⟨j,g3,g4⟩
    · exact .inl ⟨by simpa [locs] using g3,g4⟩
    · exact .inr ⟨j+1,by simpa using g3,by rw [show k+(j+1)=k+1+j by lia];exact g4⟩
abbrev MX:=EX→Option (Nf × je)
def xx(e:En):Bool:=e.all fun s=>match s with
  | some (.l _)=>false
  | some (.n _)=>false
  | _=>true
theorem eC{σ:L2.St}{H:Hp}{e:En}(h:xx e=true){a:xM}:¬bz σ e H a:=by
  rintro⟨i,⟨xs,z,_⟩ | ⟨xss,_,_,z,_⟩⟩
  · have:=NV.mp h _ (Nb z)
    cases this
  · have:=NV.mp h _ (Nb z)
    cases this
def mT(K:Ng)(C:xM)(n:Nat)(m:MX):Sp:=fun vs H Q _=>vs.length=n∧∃F x fp r oc,a_ K C F H (vs.map some) x.1 x.2 fp∧xx x.1=true∧m x=some (r,oc)∧
  ∀F' H' v fp',bY [] (vs.map some) F H x.1 (Fo x.2 fp) (vs.map some) F' H' x.1 (Fo oc fp')→a_ K C F' H' (vs.map some) x.1 oc fp'→DA K F' r v→Q v H'
def A9(K:Ng)(C:xM)(f:XR):TA:=fun σ H Q=>∃F x fp rs x',a_ K C F H σ x.1 x.2 fp∧f x=some (rs,x')∧∀F' H' vs fp',bY [] σ F H x.1 (Fo x.2 fp) σ F' H' x'.1 (Fo x'.2 fp')→a_ K C F' H' σ x'.1 x'.2 fp'→j3 K F' σ rs vs→Q vs H'
def bJ(n:Nat)(m:MX)(fs:XR):XE:=fun x=>(fs x).bind fun p=>(m_ p.2.2 0 p.1).bind fun oc=>(m (pZ p.1,oc)).bind fun z=>(jn z.2 0 p.1 p.2.2).bind fun ob'=>if p.1.length=n∧(locs p.1).Nodup then some (z.1,(p.2.1,ob')) else none
section
variable{K:Ng}{C:xM}{σ:L2.St}{H:Hp}{fs:XR}
theorem iJ{rs:List Ar}{k:Nat}{s:Option Sv}(h:(pZ rs)[k]?=some s):(∃c,rs[k]?=some (.inl c)∧s=none)∨∃d,rs[k]?=some (.inr d)∧s=some (.d d):=by
  unfold pZ at h
  rw [NT] at h
  cases q:rs[k]? with
  | none=>rw [q] at h;cases h
  | some r=>
    rw [q] at h
    cases r with
    | inl c=>cases h;exact .inl ⟨c,rfl,rfl⟩
    | inr d=>cases h;exact .inr ⟨d,rfl,rfl⟩
theorem eJ(rs:List Ar):xx (pZ rs)=true:=by
  refine NV.mpr fun s hs=>?_
  obtain⟨k,hk⟩:=List.getElem?_of_mem hs
  rcases iJ hk with ⟨c,_,rfl⟩ | ⟨d,_,rfl⟩<;>rfl
theorem q_{n:Nat}{m:MX}{Q:VK}{E:XK}(h:iw K C (bJ n m fs) σ H Q):qX (mT K C n m) [] E (A9 K C fs) σ H Q:=by
  obtain⟨F,x,fp,z,x',R,hf,q⟩:=h
  unfold bJ at hf
  obtain⟨⟨rs,x1⟩,h1,hf⟩:=M7 hf
  obtain⟨oc,h2,hf⟩:=M7 hf
  obtain⟨⟨r,oc'⟩,h3,hf⟩:=M7 hf
  obtain⟨ob',h4,hf⟩:=M7 hf
  dsimp only at hf
  split at hf
  case isFalse=>cases hf
  case isTrue hc=>
  cases hf
  obtain⟨hlen,hnd⟩:=hc
  refine⟨F,x,fp,rs,x1,R,h1,fun F1 H1 vs fp1 X1 R1 A1=>?_⟩
  show mT K C n m (vs++[]) H1 Q E
  rw [OP]
  dsimp only at h2 h3 h4 hlen hnd
  let fc:Lc→List xM:=fun d=>match d with
    | .s k=>match rs[k]? with
      | some (.inl c)=>fp1 c
      | _=>[]
    | _=>[]
  have fcs:∀(k:Nat) (c:Lc),rs[k]?=some (Sum.inl c)→fc (.s k)=fp1 c:=fun k c hk=>by show(match rs[k]? with | some (.inl c)=>fp1 c | _=>[])=_;rw [hk]
  have lk:∀{k:Nat} {c:Lc},rs[k]?=some (Sum.inl c)→∃o,(c,o)∈x1.2∧(Lc.s k,o)∈oc:=fun{k c} hk=>by
    obtain⟨o,g1,g2⟩:=oV h2 hk
    exact⟨o,cU g1,by simpa using g2⟩
  have foc:∀a,Fo oc fc a↔ ∃(k:Nat) (c:Lc),rs[k]?=some (Sum.inl c)∧a∈fp1 c:=fun a=>by
    constructor
    · rintro⟨p,hp,ha⟩
      obtain⟨j,c,g1,g2,g3⟩:=hZ h2 hp
      rw [g1,Qm,fcs j c g2] at ha
      exact⟨j,c,g2,ha⟩
    · rintro⟨k,c,hk,ha⟩
      obtain⟨o,g1,g2⟩:=lk hk
      exact⟨_,g2,by rw [fcs k c hk];exact ha⟩
  have Rc:a_ K C F1 H1 (vs.map some) (pZ rs) oc fc:=by
    refine⟨⟨R1.rel.sm,by unfold pZ;simp [A1.len],fun i y hy=>?_,fun i ys hy=>?_,fun i ys hy=>?_,fun i j a hi _=>absurd ⟨i,hi⟩ (eC (eJ rs))⟩,fun p hp=>?_,fun p hp p' hp' hne a ha=>?_,fun a _=>eC (eJ rs)⟩
    · rcases iJ hy with ⟨_,_,w⟩ | ⟨d,hk,w⟩
      · cases w
      · cases w
        obtain⟨v,g1,g2⟩:=A1.d hk
        exact⟨v,by rw [NT,g1];rfl,g2⟩
    · rcases iJ hy with ⟨_,_,w⟩ | ⟨_,_,w⟩<;>cases w
    · rcases iJ hy with ⟨_,_,w⟩ | ⟨_,_,w⟩<;>cases w
    · obtain⟨j,c,g1,g2,g3⟩:=hZ h2 hp
      rw [Qm] at g1
      rw [g1]
      refine⟨by show(pZ rs)[j]?=_;unfold pZ;rw [NT,g2];rfl,?_⟩
      obtain⟨v,c1,c2⟩:=A1.c g2
      obtain⟨_,v',d1,d2⟩:=R1.obs _ (cU g3)
      refine⟨v,by show(vs.map some)[j]?=_;rw [NT,c1];rfl,?_⟩
      rw [fcs j c g2]
      have:v=v':=c2.uniq d1
      rw [this];exact d2
    · obtain⟨j,c,g1,g2,g3⟩:=hZ h2 hp
      obtain⟨j',c',g1',g2',g3'⟩:=hZ h2 hp'
      rw [Qm] at g1 g1'
      rw [g1,fcs j c g2] at ha
      rw [g1',fcs j' c' g2']
      refine R1.dis _ (cU g3) _ (cU g3') (fun w=>hne ?_) a ha
      dsimp only at w
      subst w
      rw [g1,g1',jO hnd g2 g2']
  refine⟨by rw [←A1.len];exact hlen,F1,(pZ rs,oc),fc,z,oc',Rc,eJ rs,h3,fun F' H' v fq X3 R3 A3=>?_⟩
  have nO:∀a,¬bz (vs.map some) (pZ rs) H1 a:=fun a=>eC (eJ rs)
  let T:Lc→Prop:=fun c=>c∈locs rs
  have Tk:∀c,T c→∃k:Nat,rs[k]?=some (Sum.inl c):=fun c h=>hV.mp h
  have kT:∀{k:Nat} {c:Lc},rs[k]?=some (Sum.inl c)→T c:=fun h=>hV.mpr ⟨_,h⟩
  classical
  let fn:Lc→List xM:=fun c=>if h:T c then(if (∃o,(Lc.s (Tk c h).choose,o)∈oc') then fq (.s (Tk c h).choose) else []) else fp1 c
  have fnk:∀(k:Nat) (c:Lc),rs[k]?=some (Sum.inl c)→(∃o,(Lc.s k,o)∈oc')→fn c=fq (.s k):=fun k c hk ho=>by
    have hT:=kT hk
    have:(Tk c hT).choose=k:=jO hnd (Tk c hT).choose_spec hk
    show(if h:T c then _ else _)=_
    rw [dif_pos hT,this,if_pos ho]
  have fnm:∀c,T c→∀a∈fn c,∃k:Nat,rs[k]?=some (Sum.inl c)∧(∃o,(Lc.s k,o)∈oc')∧a∈fq (.s k):=fun c hT a ha=>by
    have:fn c=if (∃o,(Lc.s (Tk c hT).choose,o)∈oc') then fq (.s (Tk c hT).choose) else []:=dif_pos hT
    rw [this] at ha
    split at ha
    · rename_i ho;exact⟨_,(Tk c hT).choose_spec,ho,ha⟩
    · cases ha
  have toS:∀a,(∀c,T c→a∉fp1 c)→¬Fo oc fc a:=fun a h z=>by
    obtain⟨k,c,g1,g2⟩:=(foc a).mp z
    exact h c (kT g1) g2
  obtain⟨Y,R4⟩:=R1.putM (ob':=ob') (fp':=fn) (F':=F') (H':=H') T (fun c hT=>by
      obtain⟨k,hk⟩:=Tk c hT
      obtain⟨o,g1,_⟩:=lk hk
      exact⟨o,g1⟩) (fun p hp=>by
      obtain⟨q',g1,g2,g3⟩:=jK h4 hp
      refine⟨q',g1,g2,fun nT=>?_⟩
      rcases g3 with ⟨_,g3⟩ | ⟨j,g3,_⟩
      · exact g3
      · exact absurd (kT g3) (by rw [g2];exact nT)) (fun c nT=>dif_neg nT) X3.sf R3.rel.sm X3.dom X3.lst (fun a u hu hn=>X3.tmp a u hu (nO a) (toS a hn))
    (fun a g1 ⟨u,g2,g3⟩ hn=>by
      by_cases k:Dn u=true
      · exact X3.fd a ⟨u,k⟩ g1 g2 (nO a) (toS a hn)
      · rcases g3 with g3 | g3
        · cases u with
          | lst us=>exact X3.fr a us g1 g2 (nO a) (toS a hn)
          | ins c d fs=>exact absurd rfl k
          | _=>cases g3
        · exact absurd g3 k)
    (fun c hT a ha=>by
      obtain⟨k,hk,⟨o,ho⟩,ha⟩:=fnm c hT a ha
      rcases X3.own a (.inr ⟨_,ho,ha⟩) with (w | w) | w
      · exact absurd w (nO a)
      · obtain⟨k',c',g1,g2⟩:=(foc a).mp w
        exact .inl ⟨c',kT g1,g2⟩
      · exact .inr w)
    (fun c d hT hT' hne a ha hb=>by
      obtain⟨k,hk,⟨o,ho⟩,ha⟩:=fnm c hT a ha
      obtain⟨j,hj,⟨o',ho'⟩,hb⟩:=fnm d hT' a hb
      refine R3.dis _ ho _ ho' (fun w=>hne ?_) a ha hb
      have:k=j:=Lc.s.inj w
      subst this
      rw [hk] at hj
      exact Sum.inl.inj (Ox hj))
    (fun p hp hT w hw=>by
      obtain⟨q',g1,g2,g3⟩:=jK h4 hp
      rcases g3 with ⟨g3,_⟩ | ⟨j,g3,g4⟩
      · exact absurd hT g3
      · rw [Qm] at g4
        have hm:=cU g4
        rw [fnk j _ g3 ⟨_,hm⟩]
        obtain⟨_,v',d1,d2⟩:=R3.obs _ hm
        have d1:(vs.map some)[j]?=some (some v'):=d1
        obtain⟨v2,c1,c2⟩:=A1.c g3
        rw [NT,c1] at d1
        cases d1
        have:=c2.uniq hw
        rw [←this];exact d2)
  exact q F' H' v fn (X1.trans Y) R4 A3
end
section
variable{X:Cx}{K:Ng}{C:xM}{fa:XE}{fs:XR}{a:Nh}{es:List Nh}{pos:Pos}
def dQ:XR:=fun x=>some ([],x)
def cy(fa:XE)(fs:XR):XR:=fun x=>(fa x).bind fun p=>(fs p.2).map fun q=>(.inr p.1::q.1,q.2)
def qj(i:Nat)(fs:XR):XR:=fun x=>if (x.2.lookup (.s i)).isSome=true then(fs x).map fun q=>(.inl (.s i)::q.1,q.2) else none
theorem gJ:PA X [] (A9 K C dQ):=gR.mono fun σ H Q h=>by
  obtain⟨F,e,fp,r,e',R,hf,q⟩:=h
  cases hf
  exact q F H [] fp bY.refl R rfl
theorem h_(ha:PE X a (iw K C fa))(hr:PA X es (A9 K C fs))(h:PJ a=false):PA X (a::es) (A9 K C (cy fa fs)):=(vF ha hr h).mono fun σ H Q h=>by
  obtain⟨F,e,fp,z,e2,R,hf,q⟩:=h
  unfold cy at hf
  obtain⟨⟨x,e1⟩,h1,hf⟩:=M7 hf
  obtain⟨⟨xs,e2'⟩,h2,hf⟩:=M8 hf
  cases hf
  refine⟨F,e,fp,x,e1,R,h1,fun F1 H1 v fp1 X1 R1 A1=>⟨F1,e1,fp1,xs,_,R1,h2,fun F2 H2 vs fp2 X2 R2 A2=>?_⟩⟩
  exact q F2 H2 (v::vs) fp2 (X1.trans X2) R2 ⟨v,vs,rfl,A1.mono X2.sf,A2⟩
theorem uu{i:Nat}(ha:PE X a (pP i))(hr:PA X es (A9 K C fs))(h:PJ a=false):PA X (a::es) (A9 K C (qj i fs)):=(vF ha hr h).mono fun σ H Q h=>by
  obtain⟨F,e,fp,z,e2,R,hf,q⟩:=h
  unfold qj at hf
  split at hf
  case isFalse=>cases hf
  case isTrue hs=>
  obtain⟨⟨xs,e2'⟩,h2,hf⟩:=M8 hf
  cases hf
  obtain⟨o,ho⟩:=Option.isSome_iff_exists.mp hs
  obtain⟨_,v,g1,_⟩:=R.obs _ (cU ho)
  refine⟨v,g1,F,e,fp,xs,_,R,h2,fun F2 H2 vs fp2 X2 R2 A2=>?_⟩
  exact q F2 H2 (v::vs) fp2 X2 R2 ⟨v,vs,rfl,g1,A2⟩
theorem lA{x:Str}{st:Nm}{f:xM}{fd:Nx}{ps:List Str}{k n:Nat}{m:MX}{p:Pos}(h:dA X.K X.mg x st f fd ps)(G:aG X.prog X.w X.K X.mg X.base cc k f fd ps (mT K C n m))(hr:bK k X.A)(ha:PA X (a::es) (A9 K C fs))
    (hg:Gl X x)(hdb:(x==("__debug__":Str))=false)(he:Nq (a::es) X.env=(false,Nt a X.env)::Nq es X.env)(hpl:(ND pos (Nq es X.env)).any (·.1)=false):
    PE X (.Call (.Name x p) (a::es) [] pos) (iw K C (bJ n m fs)):=(Fc h G hr ha hg hdb he hpl).mono fun _ _ _ h=>q_ h
end
def dh(n k:Nat)(W:List Nat)(f:XS):MX:=fun x=>if x.1.length=n∧(x.2.all fun p=>decide (p.1.slot < n))=true then(f (x.1++Nv k none,x.2)).bind fun fl=>match fl with
    | .rt r y=>if jS W (y.2.filter fun p=>decide (p.1.slot < n))=true∧okO (y.2.filter fun p=>decide (p.1.slot < n)) x.1=true then some (r,y.2.filter fun p=>decide (p.1.slot < n)) else none
    | .nx y=>if jS W (y.2.filter fun p=>decide (p.1.slot < n))=true∧okO (y.2.filter fun p=>decide (p.1.slot < n)) x.1=true then some (.none,y.2.filter fun p=>decide (p.1.slot < n)) else none
    | _=>none
  else none
section
variable{P:Nl}{w:Nj}{K:Ng}{C:xM}{mg:Str→Option Kz}{base:Nk}
theorem HE{F F' H H':Hp}{σ:L2.St}{e:En}(R:aW K F H σ e)(h:xx e=true)(s:ao F F')(sm:ao F' H'):aW K F' H' σ e:=by
  have no:∀{i:Nat} {s:Sv},e[i]?=some (some s)→(∃x,s=.d x):=fun{i s} z=>by
    have:=NV.mp h _ (Nb z)
    cases s with
    | d x=>exact⟨x,rfl⟩
    | l x=>cases this
    | n x=>cases this
  refine⟨sm,R.len,fun i x hx=>let ⟨v,h1,h2⟩:=R.dat i x hx;⟨v,h1,h2.mono s⟩,fun i xs hx=>?_,fun i xs hx=>?_,fun i j a hi _=>absurd ⟨i,hi⟩ (eC h)⟩
  · obtain⟨x,z⟩:=no hx;cases z
  · obtain⟨x,z⟩:=no hx;cases z
theorem sV.okY{x qual:Str}{st:Nm}{f:xM}{fd:Nx}{N ps:List Str}{k n k0:Nat}{W:List Nat}{fb:XS}(hF:sV K x qual st f fd)(S:au N ps (ag st))(hn:ps.length=n)(hN:N.length=n+k0)
    (hb:∀(cdv:Kz) (A:Nn) (outer:List Env) (s:Nc) (H:Hp) (E:XK),bK k (A.deeper (envOfC qual (ag st) s.heap.objs.size f cdv))→jh (tK cc P w K mg base N qual (ag st) f cdv A outer s H E).nox (cj st) (p7 K C fb W)):
    aG P w K mg base cc (k+1) f fd ps (mT K C n (dh n k0 W fb)):=by
  refine hF.ok S (fun vs H Q E q=>?_) fun cdv A outer s H vs Q E hr hsp=>⟨_,hb cdv A outer s H E hr,?_⟩
  · rw [hn];exact q.1
  · obtain⟨hl,F,x,fp,r,oc,R,hd,hm,q⟩:=hsp
    unfold dh at hm
    split at hm
    case isFalse=>cases hm
    case isTrue hc=>
    obtain⟨la,lo⟩:=hc
    obtain⟨fl,h1,hm⟩:=M7 hm
    have hst:gM N vs=vs.map some++Nv k0 none:=by unfold gM;rw [hN,hl];congr 2;lia
    rw [hst]
    have lt:∀p∈x.2,p.1.slot < n:=fun p hp=>by simpa using NV.mp lo p hp
    have gv:∀j,j < n→(vs.map some++Nv k0 none)[j]?=(vs.map some)[j]?:=fun j hj=>OV (by rw [NN,hl];exact hj)
    have ge:∀j,j < n→(x.1++Nv k0 none)[j]?=x.1[j]?:=fun j hj=>OV (by rw [la];exact hj)
    have lcp:∀{F:Hp} {σ σ':L2.St} {c:Lc} {v:V},lR K F σ c v→σ'[c.slot]?=σ[c.slot]?→lR K F σ' c v:=fun h e=>h.mono (ao.refl _) e
    have Rp:a_ K C F H (vs.map some++Nv k0 none) (x.1++Nv k0 none) x.2 fp:=⟨R.rel.pad,fun p hp=>by
      obtain⟨c1,v,c2,c3⟩:=R.obs p hp
      exact⟨by rw [ge _ (lt p hp)];exact c1,v,lcp c2 (gv _ (lt p hp)),c3⟩,R.dis,fun a ha z=>R.own a ha (fg.mp z)⟩
    have key:∀{y:EX},jS W (y.2.filter fun p=>decide (p.1.slot < n))=true∧okO (y.2.filter fun p=>decide (p.1.slot < n)) x.1=true→∀F' H' σ' fp',bY W (vs.map some++Nv k0 none) F H (x.1++Nv k0 none) (Fo x.2 fp) σ' F' H' y.1 (Fo y.2 fp')→a_ K C F' H' σ' y.1 y.2 fp'→
        bY [] (vs.map some) F H x.1 (Fo x.2 fp) (vs.map some) F' H' x.1 (Fo (y.2.filter fun p=>decide (p.1.slot < n)) fp')∧a_ K C F' H' (vs.map some) x.1 (y.2.filter fun p=>decide (p.1.slot < n)) fp':=by
      intro y hk F' H' σ' fp' X' R'
      have sub:∀a,Fo (y.2.filter fun p=>decide (p.1.slot < n)) fp' a→Fo y.2 fp' a:=fun a ⟨p,hp,ha⟩=>⟨p,(Pn.mp hp).1,ha⟩
      refine⟨⟨X'.sf,X'.dom,fun a us h1 h2 hn=>X'.fr a us h1 h2 fun z=>hn (fg.mp z),X'.lst,fun a o ha hn=>X'.tmp a o ha fun z=>hn (fg.mp z),fun a z=>?_,fun _ _=>rfl,fun a m h1 h2 hn=>X'.fd a m h1 h2 fun z=>hn (fg.mp z)⟩,
        ⟨HE R.rel hd X'.sf R'.rel.sm,fun p hp=>?_,fun p hp q hq=>R'.dis p (Pn.mp hp).1 q (Pn.mp hq).1,fun a ha=>eC hd⟩⟩
      · rcases z with z | z
        · exact absurd z (eC hd)
        · exact(X'.own a (.inr (sub a z))).imp_left fun w=>w.imp_left fg.mp
      · have hp':=Pn.mp hp
        have hs:p.1.slot < n:=by simpa using hp'.2
        obtain⟨_,v,c2,c3⟩:=R'.obs p hp'.1
        exact⟨zF hk.2 hp,v,lcp c2 (by rw [X'.wr _ (oX hk.1 p hp),gv _ hs]),c3⟩
    refine⟨F,(x.1++Nv k0 none,x.2),fp,fl,Rp,h1,?_⟩
    cases fl with
    | bk e'=>cases hm
    | ct e'=>cases hm
    | nx y=>
      dsimp only at hm
      split at hm
      case isFalse=>cases hm
      case isTrue hk=>
      cases hm
      intro F' H' σ' fp' X' R'
      obtain⟨X2,R2⟩:=key hk F' H' σ' fp' X' R'
      exact q F' H' .non fp' X2 R2 ((eu (K:=K) (F:=F')).mpr rfl)
    | rt r0 y=>
      dsimp only at hm
      split at hm
      case isFalse=>cases hm
      case isTrue hk=>
      cases hm
      intro F' H' σ' v fp' X' R' A'
      obtain⟨X2,R2⟩:=key hk F' H' σ' fp' X' R'
      exact q F' H' v fp' X2 R2 A'
end
section
variable{X:Cx}{K:Ng}{C:xM}{W W1 W2:List Nat}{f:XS}{ft:XT}{pos:Pos}
noncomputable def tP(W1:List Nat)(g:FG)(f:XS):List Nf→EX→Option Gu
  | [],x=>some (.nx x)
  | d::r,x=>if jS W1 x.2=true then(g d x.1).bind fun e1=>if okO x.2 e1=true then(f (e1,x.2)).bind fun fl=>match fl with
      | .nx x2=>tP W1 g f r x2
      | .ct x2=>tP W1 g f r x2
      | .bk x2=>some (.nx x2)
      | .rt v x2=>some (.rt v x2)
    else none else none
noncomputable def mL(W1:List Nat)(fi:FI)(g:FG)(f:XS):XS:=fun x=>(fi x.1).bind fun p=>if p.2.1.isEmpty=true∧okO x.2 p.2.2=true then tP W1 g f p.1 (p.2.2,x.2) else none
inductive DO (K:Ng) (C:xM) (F1:Hp) (P:EX→Prop) (G:L2.St→Hp→Hp→En→(xM→Prop)→Prop) (σ:L2.St) (H:Hp):Prop
  | mk {F:Hp} {x:EX} {fp:Lc→List xM} (R:a_ K C F H σ x.1 x.2 fp) (sF:ao F1 F) (hf:P x) (q:G σ F H x.1 (Fo x.2 fp)):DO K C F1 P G σ H
theorem wL{tg iter:Nh}{body:List Nm}{fi:FI}{gg:FG}(hp:PassesOwn (Nr X.prog X.w) X.A X.env X.xe)(hc:X.calm=true)(hi:PI X tg iter (fI K fi))(hg:PG X tg (fG K gg W1))(hb:jh X body (p7 K C f W2))(hs:∀x,PR iter X.env x=pure x):
    PS X (.For tg iter body [] pos) (p7 K C (mL W1 fi gg f) (W1++W2)):=(zV hp hc hi hg hb hs).mono fun D σ0 H0 hh=>by
  obtain⟨F0,x0,fp0,fl,R0,hf,q0⟩:=hh
  unfold mL at hf
  obtain⟨⟨items,own,e1⟩,hI,hf⟩:=M7 hf
  dsimp only at hf
  split at hf
  case isFalse=>cases hf
  case isTrue ho=>
  obtain⟨ho,hok⟩:=ho
  have ho:=List.isEmpty_iff.mp ho
  subst ho
  refine⟨F0,x0.1,items,[],e1,R0.rel,hI,fun J F1 H1 X1 R1 kp ok=>?_⟩
  have s1:∀j,j∈W1→j∈W1++W2:=fun j h=>Ov.mpr (.inl h)
  have s2:∀j,j∈W2→j∈W1++W2:=fun j h=>Ov.mpr (.inr h)
  have s0:∀j,j∈([]:List Nat)→j∈W1++W2:=fun j h=>by cases h
  obtain⟨Y1,R1X⟩:=R0.pure X1 R1 hok
  have q1:mB K C (W1++W2) σ0 F1 H1 e1 (Fo x0.2 fp0) D fl:=q0.later (W1:=[]) Y1 s0 fun j h=>h
  refine⟨fun k m σ H=>m=items.length - k∧k≤items.length∧DO K C F1 (fun x=>tP W1 gg f (items.drop k) x=some fl) (fun σ F H e S=>mB K C (W1++W2) σ F H e S D fl) σ H,
    ⟨items.length,by simp,OS _,.mk (x:=(e1,x0.2)) R1X (ao.refl _) hf q1⟩,?_⟩
  rintro k m σ H ⟨rfl,hk,⟨R,sF,hf,q⟩⟩
  rename_i F x fp
  obtain⟨go,stop,yld⟩:=ok F H sF R.rel.sm (fun p hp=>by cases hp)
  by_cases hlt:k < items.length
  · have hd:items.drop k=items[k]::items.drop (k+1):=Rg hlt
    rw [hd] at hf
    unfold tP at hf
    split at hf
    case isFalse=>cases hf
    case isTrue hw=>
    obtain⟨e2,h2,hf⟩:=M7 hf
    split at hf
    case isFalse=>cases hf
    case isTrue hok2=>
    obtain⟨fl2,h3,hf⟩:=M7 hf
    refine .inr ⟨go k hlt,DO K C F1 (fun x=>tP W1 gg f (items.drop (k+1)) x=some fl) (fun σ F H e S=>mB K C (W1++W2) σ F H e S D fl),
      fun σ' H' r=>⟨items.length - (k+1),by lia,rfl,hlt,r⟩,fun y H' hy=>?_⟩
    obtain⟨F',sH,sF',sm',fz,hx⟩:=yld k items[k] y H' (OF hlt) hy
    obtain⟨R',X'⟩:=R.rel.step sH sF' sm' fz
    obtain⟨Y2,R2X⟩:=R.pure0 X' R'
    refine⟨F',_,items[k],e2,R',hx,h2,fun σ2 x2 R2=>?_⟩
    obtain⟨Y3,R3X⟩:=R2X.next x2 (oX hw) hok2 R2
    refine⟨F',(e2,x.2),fp,fl2,R3X,h3,?_⟩
    have q2:mB K C (W1++W2) σ2 F' H' e2 (Fo x.2 fp) D fl:=(q.later (W1:=[]) (W2:=W1++W2) Y2 s0 fun j h=>h).later Y3 s1 fun j h=>h
    cases fl2 with
    | nx x3=>exact fun F3 H3 σ3 fp3 y3 R3=>.mk R3 (sF.trans (sF'.trans y3.sf)) hf (q2.later y3 s2 fun j h=>h)
    | ct x3=>exact fun F3 H3 σ3 fp3 y3 R3=>.mk R3 (sF.trans (sF'.trans y3.sf)) hf (q2.later y3 s2 fun j h=>h)
    | bk x3=>
      cases hf
      exact fun F3 H3 σ3 fp3 y3 R3=>q2 F3 H3 σ3 fp3 (y3.mono s2) R3
    | rt r x3=>
      cases hf
      exact fun F3 H3 σ3 v fp3 y3 R3 A3=>q2 F3 H3 σ3 v fp3 (y3.mono s2) R3 A3
  · have hd:items.drop k=[]:=Rh (by lia)
    rw [hd] at hf
    cases hf
    exact .inl ⟨stop k (by lia),q F H σ fp bY.refl R⟩
end
section
variable{X:Cx}{K:Ng}{a b:Nh}{es:List Nh}{fa fb:FE}{fs:FA}{pos apos cpos p2:Pos}{lo hi:Option Nh}
def HC:V→Option Int→Option Int→Hp→VK→Prop:=fun x lo hi H Q=>∃y,x=.str y∧y.length≤Ny∧Q (.str (OM y lo hi)) H
theorem oY{v:Kz}{o:Option Int}(h:IsPart v o):∃l:Option (Int × Tok),v=partValue l∧o=l.map (·.1):=by
  cases h with
  | none=>exact⟨none,rfl,rfl⟩
  | int i t=>exact⟨some (i,t),rfl,rfl⟩
theorem AF:A4 X HC:=by
  intro pins s σ H x v vl vu lo hi sl Q I rx hs pl pu h
  obtain⟨y,rfl,hz,q⟩:=h
  obtain⟨t,rfl⟩:=rx
  obtain⟨l,rfl,rfl⟩:=oY pl
  obtain⟨u,rfl,rfl⟩:=oY pu
  refine⟨"str",_,F.slot_str_getitem.lookup,typeIs_str _ _ _,wpAny_getItem_str_slice (l:=l) (u:=u) (st:=none) hs rfl ?_⟩
  refine post_val_or_str ⟨NR (Txt.slice_le y (l.map (·.1)) (u.map (·.1))) hz,fun t' k=>⟨.str _,H,I.tok _,⟨_,rfl⟩,q⟩⟩
def ny(fa:FE)(fl fh:FO):FE:=fun e=>(fa e).bind fun p=>(fl p.2).bind fun l=>(fh l.2).bind fun h=>(bR p.1).bind fun y=>if y.length≤1000000 then some (.d (.str (OM y l.1 h.1)),h.2) else none
theorem ur{fl fh:FO}(he:PE X a (fE K fa))(hl:PO X lo (fO K fl))(hh:PO X hi (fO K fh)):PE X (.Subscript a (.Slice lo hi none p2) pos) (fE K (ny fa fl fh)):=(o5 AF he hl hh).mono fun σ H Q h=>by
  obtain⟨F,e,z,e',R,hf,q⟩:=h
  unfold ny at hf
  obtain⟨⟨x,e1⟩,h1,hf⟩:=M7 hf
  obtain⟨⟨l,e2⟩,h2,hf⟩:=M7 hf
  obtain⟨⟨u,e3⟩,h3,hf⟩:=M7 hf
  obtain⟨y,h4,hf⟩:=M7 hf
  split at hf
  case isFalse=>cases hf
  case isTrue hz=>
  cases hf
  refine⟨F,e,x,e1,R,h1,fun F1 H1 v X1 R1 A1=>⟨F1,e1,l,e2,R1,h2,fun F2 H2 X2 R2=>⟨F2,e2,u,_,R2,h3,fun F3 H3 X3 R3=>?_⟩⟩⟩
  have sl:Ny=16777216:=Oh
  exact⟨y,cV ((A1.ext X2).ext X3) h4,by lia,q F3 H3 _ ((X1.trans X2).trans X3) R3 mh⟩
def iP:En→Rv→Option Rv:=fun _ x=>(bR x).bind fun y=>if y.length≤640 then(Qn y).map fun n=>.d (.int n) else none
def Af:V→Hp→VK→Prop:=fun v H Q=>∃y n,v=.str y∧y.length≤640∧Qn y=some n∧Q (.int n) H
theorem u9:cQ X (.type "int") (fun xs H Q=>∃v,xs=[v]∧Af v H Q):=by
  intro pins s σ H xs us Q I r h
  obtain⟨v,rfl,y,n,rfl,h1,h2,q⟩:=h
  obtain⟨u,rfl,ru⟩:=iW r
  obtain⟨t,rfl⟩:=ru
  exact PySem.W.KIN.call_text h2 h1 ⟨.int n,H,I.tok _,⟨_,rfl⟩,q⟩
theorem BA:cO K (fun xs H Q=>∃v,xs=[v]∧Af v H Q) (g1 iP):=et fun σ H0 F H e x z v Q R A hg q=>by
  unfold iP at hg
  obtain⟨y,h1,hg⟩:=M7 hg
  split at hg
  case isFalse=>cases hg
  case isTrue hl=>
  obtain⟨n,h2,hg⟩:=M8 hg
  cases hg
  exact⟨v,rfl,y,n,cV A h1,hl,h2,q F H _ (cW.refl _ _ _ _) R (show DA K F (.int n) (.int n) from bS.mpr rfl)⟩
theorem we:j4 X K "int" (g1 iP):=⟨.inr ⟨_,_,u9,BA,PyProof.Rows.boot_int⟩⟩
def lW:En→Rv→Option Rv:=fun _ x=>(bR x).bind fun y=>if y.length≤1000000 then some (.d (.int y.length)) else none
theorem u_:cQ X (.builtin "len") (fun xs H Q=>∃v,xs=[v]∧∃y:Str,v=.str y∧y.length≤1000000∧Q (.int y.length) H):=by
  intro pins s σ H xs us Q I r h
  obtain⟨v,rfl,y,rfl,h1,q⟩:=h
  obtain⟨u,rfl,ru⟩:=iW r
  obtain⟨t,rfl⟩:=ru
  exact len_str (by lia) ⟨.int _,H,I.tok _,⟨_,rfl⟩,q⟩
theorem BL:cO K (fun xs H Q=>∃v,xs=[v]∧∃y:Str,v=.str y∧y.length≤1000000∧Q (.int y.length) H) (g1 lW):=et fun σ H0 F H e x z v Q R A hg q=>by
  unfold lW at hg
  obtain⟨y,h1,hg⟩:=M7 hg
  split at hg
  case isFalse=>cases hg
  case isTrue hl=>
  cases hg
  exact⟨v,rfl,y,cV A h1,hl,q F H _ (cW.refl _ _ _ _) R (show DA K F (.int _) (.int _) from bS.mpr rfl)⟩
theorem Bl:j4 X K "len" (g1 lW):=⟨.inl ⟨_,_,u_,BL,PySem.boot_len⟩⟩
def FL:V→List V→Hp→VK→Prop:=fun x vs H Q=>∃y z:Str,x=.str y∧vs=[.str z]∧(z.length==0)=false∧y.length+2≤Ny∧∀l,H l=none→Q (.ref l) (bw H l (.lst ((OX y z).map V.str)))
theorem mV:∀{l:List (Str × Tok)},aS ((l.map (·.1)).map V.str) (strValues l)
  | []=>.nil
  | p::r=>.cons ⟨p.2,rfl⟩ (mV (l:=r))
theorem zr:DR X "str.split" FL:=by
  intro pins s σ H x xs v us Q I rx rs h
  obtain⟨y,z,rfl,rfl,hz,hl,q⟩:=h
  obtain⟨t,rfl⟩:=rx
  obtain⟨w,rfl,rw0⟩:=iW rs
  obtain⟨u,rfl⟩:=rw0
  have key:∀(l:List (Str × Tok)) (k:Nat),l.map (·.1)=OX y z→EP X pins σ Q (.ref s.heap.objs.size) {s with heap:=s.heap.push {cls:=.type "list",data:=.seq (strValues l).toArray},toks:=k}:=fun l k hk=>by
    have hlen:l.length≤Ny:=by
      have h1:l.length=(OX y z).length:=by rw [←hk,NN]
      have h2:(OX y z).length≤y.length+2:=by
        unfold OX
        split
        · simp
        · split
          · simp
          · have e1:=StrLaws.occ_length_le y z 0 y.length (y.length+1)
            rw [length_partsBetween];lia
      lia
    refine⟨.ref s.heap.objs.size,_,I.laid (t':=k) (o:=.lst ((OX y z).map V.str)) (fun b ob q=>NS _ q) (NA _) ?_,rfl,q _ (I.hok.fresh (NA _))⟩
    refine⟨by rw [NN,←hk,NN];exact hlen,strValues l,0,by rw [←hk];exact mV,Oo _ rfl⟩
  have hn:(Builtin.Str.partsBetween y (Rl y z 0 y.length (y.length+1)) z.length).length≤Ny:=by
    have e1:=StrLaws.occ_length_le y z 0 y.length (y.length+1)
    rw [length_partsBetween];lia
  cases h1:(decide (y.length < z.length) || decide (Builtin.Str.strKind y < Builtin.Str.strKind z))
  · cases hf:(Rl y z 0 y.length (y.length+1)).isEmpty
    · refine OL QM (typeIs_str _ _ _) F.entry_str_split (F.args_str_split_2 _ _) (meets_str_split_sep y z t u h1 hz hf (by lia) hn) ?_
      show EP X pins σ Q _ {s with toks:=_,heap:=s.heap.push {cls:=.type "list",data:=.seq (strsFrom s.toks (Builtin.Str.partsBetween y (Rl y z 0 y.length (y.length+1)) z.length)).toArray}}
      rw [strsFrom_eq]
      exact key (numbered s.toks _) _ ((numbered_texts _ _).trans ((if_neg (ne_true_of_eq_false h1)).trans (if_neg (ne_true_of_eq_false hf))).symm)
    · exact OL QM (typeIs_str _ _ _) F.entry_str_split (F.args_str_split_2 _ _) (meets_str_split_not_found y z t u h1 hz hf)
        (key [(y,t)] s.toks ((if_neg (ne_true_of_eq_false h1)).trans (if_pos hf)).symm)
  · exact OL QM (typeIs_str _ _ _) F.entry_str_split (F.args_str_split_2 _ _) (meets_str_split_cannot_occur y z t u h1)
      (key [(y,t)] s.toks (if_pos h1).symm)
def jy:En→Rv→Rv→Option Rv:=fun _ x y=>(bR x).bind fun u=>(bR y).bind fun v=>if v.length≠0∧u.length≤1000000 then some (.l ((OX u v).map .str)) else none
theorem oh{F:Hp}:∀(ys:List Str),aQ K F (ys.map .str) (ys.map V.str)
  | []=>aQ.nil
  | y::ys=>.cons (iI.mpr rfl) (oh ys)
theorem Cy(ha:PE X a (fE K fa))(hb:PE X b (fE K fb))(hbase:Oy a "split" X.env (Nt a X.env)=Nt a X.env)
    (hfew:((ND cpos (Nq [b] X.env)).all (fun x=> !x.1)&&(OT cpos (OU [] X.env)).all (fun x=>x.1.isSome)&&decide (([b]:List Nh).length+([]:List Oi).length+(if ([]:List Oi).isEmpty then 0 else 1) < 30))=true)
    (hline:(apos.endLine==cpos.line)=true)(hs:Nq [b] X.env=(false,Nt b X.env)::Nq [] X.env)(hplain:(ND cpos (Nq [] X.env)).any (·.1)=false):
    PE X (.Call (.Attribute a "split" apos) [b] [] cpos) (fE K (ay jy fa fb)):=
  (zK Rk QM PySem.F.type_str_split zr ha (lw hb gR hs) hbase hfew hline hs hplain).mono fun σ H Q h=>by
    obtain⟨F,e,r,e',R,hf,q⟩:=h
    unfold ay at hf
    obtain⟨⟨x,e1⟩,h1,hf⟩:=M7 hf
    obtain⟨⟨y,e2⟩,h2,hf⟩:=M7 hf
    obtain⟨z,h3,hf⟩:=M8 hf
    cases hf
    unfold jy at h3
    obtain⟨u,g1,h3⟩:=M7 h3
    obtain⟨v,g2,h3⟩:=M7 h3
    split at h3
    case isFalse=>cases h3
    case isTrue hc=>
    cases h3
    refine⟨F,e,x,e1,R,h1,fun F1 H1 w X1 R1 A1=>?_⟩
    have ew:=cV A1 g1
    refine⟨?_,F1,e1,y,_,R1,h2,fun F2 H2 w2 X2 R2 A2=>?_⟩
    · rw [ew];trivial
    have ew2:=cV A2 g2
    have sl:Ny=16777216:=Oh
    refine⟨u,v,ew,by rw [ew2],by simpa using hc.1,by lia,fun l hl=>?_⟩
    obtain⟨R3,X3,hF,no⟩:=R2.newL (vs:=(OX u v).map V.str) hl
    exact q F2 _ _ ((X1.trans X2).trans X3) R3 ⟨l,_,rfl,X1.dom _ (X2.dom _ hl),hF,ar,oh _,no⟩
def FF:V→List V→Hp→VK→Prop:=fun x vs H Q=>∃y,x=.str y∧vs=[]∧Q (.bl (Qo y)) H
theorem EK:DR X "str.isdecimal" FF:=by
  intro pins s σ H x xs v us Q I rx rs h
  obtain⟨y,rfl,rfl,q⟩:=h
  obtain⟨t,rfl⟩:=rx
  have:=rs.zero
  subst this
  exact PySem.SC.isdecimal ⟨.bl _,H,I,rfl,q⟩
def sd:En→Rv→Option Rv:=fun _ x=>(bR x).map fun u=>.d (.bool (Qo u))
theorem Hn(ha:PE X a (fE K fa))(hbase:Oy a "isdecimal" X.env (Nt a X.env)=Nt a X.env)(hline:(apos.endLine==cpos.line)=true):PE X (.Call (.Attribute a "isdecimal" apos) [] [] cpos) (fE K (uS sd fa)):=
  (zL Rk PySem.F.slot_str_isdecimal PySem.F.type_str_isdecimal EK ha hbase hline).mono fun σ H Q h=>by
    obtain⟨F,e,r,e',R,hf,q⟩:=h
    unfold uS at hf
    obtain⟨⟨x,e1⟩,h1,hf⟩:=M7 hf
    obtain⟨z,h3,hf⟩:=M8 hf
    cases hf
    obtain⟨u,g1,rfl⟩:=M8 h3
    refine⟨F,e,x,_,R,h1,fun F1 H1 w X1 R1 A1=>?_⟩
    have ew:=cV A1 g1
    exact⟨by rw [ew];trivial,u,ew,rfl,q F1 H1 _ X1 R1 dN⟩
def r_:List Nf→List Nf→Option (Nf × List Nf):=fun xs ds=>match ds with
  | []=>some (.none,[])
  | _=>none
theorem Bp:nR K Ae r_:=by
  intro F H l xs ys ds z vs us Q hF sm hl d1 d2 hg q
  unfold r_ at hg
  match ds,hg,d2 with
  | [],hg,d2=>
    simp only [aQ] at d2
    subst d2
    cases hg
    exact⟨l,vs,rfl,rfl,hl,q _ _ (eu.mpr rfl) aQ.nil⟩
theorem Cv(hK:X.K=K)(ho:PE X a (fE K fa))(hbase:Oy a "clear" X.env (Nt a X.env)=Nt a X.env)(hline:(apos.endLine==cpos.line)=true):
    PE X (.Call (.Attribute a "clear" apos) [] [] cpos) (fE K (cg r_ fa ah)):=by
  subst hK;exact z8 PySem.F.slot_list_clear PySem.F.type_list_clear zo Bp ho hbase hline
end
section
variable{X:Cx}{K:Ng}{C:xM}{fa fb:XE}{fs:XR}{a b:Nh}{es:List Nh}{cn:List Nm}{pos apos p p2:Pos}
def lO(i:Nat)(nm:Str)(fs:XR):XR:=fun x=>match x.2.lookup (.s i) with
  | some (.dk gs)=>if (gs.lookup nm).isNone=true then(fs x).map fun q=>(.inl (.s i)::q.1,q.2) else none
  | _=>none
theorem rd{i n:Nat}{nm:Str}{m:MX}{σ:L2.St}{H:Hp}{Q:VK}{E:XK}(h:iw K C (bJ n m (lO i nm fs)) σ H Q):AJ C nm (mT K C n m) [] E (pP i) (A9 K C fs) σ H Q:=by
  obtain⟨F,x,fp,rs,x',R,hf,q⟩:=(q_ (E:=E) h:A9 K C (lO i nm fs) σ H fun vs H1=>mT K C n m (vs++[]) H1 Q E)
  unfold lO at hf
  split at hf
  case h_2=>cases hf
  case h_1 gs hl=>
  split at hf
  case isFalse=>cases hf
  case isTrue hn=>
  obtain⟨⟨rs1,x2⟩,h1,hf⟩:=M8 hf
  cases hf
  obtain⟨_,v,g1,g2⟩:=R.obs _ (cU hl)
  obtain⟨ad,dx,hs,rfl,_,c1,c2,c3⟩:=g2
  refine⟨.ref ad,g1,ad,dx,hs,rfl,c2,c3.none (Option.isNone_iff_eq_none.mp hn),F,x,fp,rs1,_,R,h1,fun F2 H2 vs fp2 X2 R2 A2=>?_⟩
  exact q F2 H2 (.ref ad::vs) fp2 X2 R2 ⟨.ref ad,vs,rfl,g1,A2⟩
theorem sG{i k n:Nat}{x nm:Str}{f:xM}{fd:Nx}{ps:List Str}{m:MX}{pl:Sem Bool}(hK:X.K=K)(ho:PE X (.Name x p) (pP i))(cl:pY K C)(hm:lS K C nm f)(G:aG X.prog X.w X.K X.mg X.base cc k f fd ps (mT K C n m))(hr:bK k X.A)(hb:dz X.K fd ps [])(ha:PA X (a::es) (A9 K C fs))
    (hst:Nq (a::es) X.env=(false,Nt a X.env)::Nq es X.env)(hpl:(ND pos (Nq es X.env)).any (·.1)=false)
    (ht:Nt (.Call (.Attribute (.Name x p) nm apos) (a::es) [] pos) X.env=(do
      let ov ←Nt (.Name x p) X.env
      standAt apos.atName
      let (f,first) ←holding [ov] (getMethod ov nm pl)
      callWith pos f first (ND pos (Nq (a::es) X.env)) (OT pos (OU [] X.env)))):
    PE X (.Call (.Attribute (.Name x p) nm apos) (a::es) [] pos) (iw K C (bJ n m (lO i nm fs))):=by
  subst hK
  exact(Ci ho cl hm G hr hb .nil uo ha hst hpl ht).mono fun _ _ _ h=>rd h
theorem z3{i k n:Nat}{x nm:Str}{f:xM}{fd:Nx}{ps:List Str}{m:MX}{pl:Sem Bool}(hK:X.K=K)(ho:PE X (.Name x p) (pP i))(cl:pY K C)(hm:lS K C nm f)(G:aG X.prog X.w X.K X.mg X.base cc k f fd ps (mT K C n m))(hr:bK k X.A)(hb:dz X.K fd ps [])
    (ht:Nt (.Call (.Attribute (.Name x p) nm apos) [] [] pos) X.env=(do
      let ov ←Nt (.Name x p) X.env
      standAt apos.atName
      let (f,first) ←holding [ov] (getMethod ov nm pl)
      callWith pos f first (ND pos (Nq [] X.env)) (OT pos (OU [] X.env)))):
    PE X (.Call (.Attribute (.Name x p) nm apos) [] [] pos) (iw K C (bJ n m (lO i nm dQ))):=by
  subst hK
  refine(zN ho cl hm G hr hb .nil uo ht).mono fun σ H Q h=>?_
  obtain⟨v,g1,ad,dx,hs,e1,e2,e3,F,x,fp,rs,x',R,hf,q⟩:=rd (E:=E0) h
  cases hf
  exact⟨v,g1,ad,dx,hs,e1,e2,e3,q F H [] fp bY.refl R rfl⟩
theorem z4{lo hi:Option Nh}{l h:Option Int}(hK:X.K=K)(he:PE X a (iw K C fa))(hl:PO X lo (fO K fun e=>some (l,e)))(hh:PO X hi (fO K fun e=>some (h,e))):PE X (.Subscript a (.Slice lo hi none p2) pos) (iw K C (Ge fa l h)):=by
  subst hK
  refine(o5 HI he hl hh).mono fun σ H Q hh'=>?_
  obtain⟨F,x,fp,r,x',R,hf,q⟩:=hh'
  unfold Ge at hf
  obtain⟨⟨d,x1⟩,h1,hf⟩:=M7 hf
  obtain⟨z,h2,hf⟩:=M7 hf
  obtain⟨d2,h3,hf⟩:=M8 hf
  cases hf
  refine⟨F,x,fp,d,_,R,h1,fun F1 H1 v fp1 X1 R1 A1=>⟨F1,_,_,_,R1.rel,rfl,fun F2 H2 X2 R2=>⟨F2,_,_,_,R2,rfl,fun F3 H3 X3 R3=>?_⟩⟩⟩
  obtain⟨Y2,R2X⟩:=R1.pure0 X2 R2
  obtain⟨Y3,R3X⟩:=R2X.pure0 X3 R3
  have A3:ce X.K σ H3 F3 H3 x1.1 (.d d) v:=A1.mono (X2.sf.trans X3.sf)
  unfold GJ at h2
  obtain⟨⟨k,ds⟩,g1,g2⟩:=M8 h2
  obtain⟨pp,vs,rfl,B,S⟩:=cN R3 A3 g1
  cases k with
  | true=>
    have g2':Rv.l (j9 ds l h)=z:=by simpa using g2
    subst g2'
    refine .inr (.inr ⟨pp,vs,rfl,S,fun b hb=>?_⟩)
    obtain⟨R4,X4,hF,no⟩:=R3.newL (vs:=m4 vs l h) hb
    obtain⟨Y4,R4X⟩:=R3X.pure0 X4 R4
    obtain⟨F5,Y5,R5,D5⟩:=a_.toD (H1:=H3) Y4 R4X (fun _ z=>z) R3X.hn (show ce X.K σ H3 F3 _ _ (.l (j9 ds l h)) (.ref b) from⟨b,_,rfl,hb,hF,ar,rG B l h,no⟩) h3
    exact q F5 _ _ _ (((X1.trans Y2).trans Y3).trans Y5) R5 D5
  | false=>
    have g2':Rv.d (.tuple (j9 ds l h))=z:=by simpa using g2
    subst g2'
    cases h3
    by_cases hw:HT.sIx vs.length 0 l=0∧HT.sIx vs.length vs.length h=vs.length
    · refine .inr (.inl ⟨pp,vs,rfl,S,hw,?_⟩)
      have e5:j9 ds l h=ds:=by unfold j9;exact wo (by rw [B.len];exact hw)
      rw [e5] at q
      obtain⟨F4,R4,X4,hF⟩:=R3.growT (ao.refl _) S
      obtain⟨Y4,R4X⟩:=R3X.pure0 X4 R4
      exact q _ _ _ _ (((X1.trans Y2).trans Y3).trans Y4) R4X (df.mpr ⟨pp,vs,rfl,hF,B.mono X4.sf⟩)
    · refine .inl ⟨pp,vs,rfl,S,hw,fun b hb=>?_⟩
      obtain⟨R4,X4⟩:=R3.newT (vs:=m4 vs l h) hb
      obtain⟨Y4,R4X⟩:=R3X.pure0 X4 R4
      exact q _ _ _ _ (((X1.trans Y2).trans Y3).trans Y4) R4X (df.mpr ⟨b,_,rfl,.inl (.inl ar),(rG B l h).mono X4.sf⟩)
def AX(y:Str)(fb:XE):XE:=fun x=>(fb x).bind fun p=>match p.1 with
  | .int i=>if i.natAbs.log2 < 1900∧y.length≤1000∧((toString i:String):Str).length≤1000 then some (.str (Pc++y++(toString i:String)),p.2) else none
  | _=>none
theorem Hm{y:Str}{j:Nat}{p0 p1:Pos}(hb:PE X b (iw K C fb)):PE X (.JoinedStr [.Constant (.str y) j p0,.FormattedValue b (-1) none p1] pos) (iw K C (AX y fb)):=fun pins s σ H Q I h=>by
  obtain⟨F,x,fp,r,x',R,hf,q⟩:=h
  unfold AX at hf
  obtain⟨⟨d,x1⟩,h1,hf⟩:=M7 hf
  dsimp only at hf
  split at hf
  case h_2=>cases hf
  case h_1 i=>
  split at hf
  case isFalse=>cases hf
  case isTrue hc=>
  cases hf
  have e0:(Pc).length=0:=rfl
  have l1:(Pc++y).length=y.length:=by rw [oQ,e0];lia
  refine JoinedStr_many (joinParts_cons (cA (@vH X y j p0 pins s σ H (fun v H1=>v=.str y∧H1=H) I ⟨rfl,rfl⟩) fun v s1 ⟨xv,H1,I1,rv1,ex,eh⟩=>?_))
  subst ex
  subst eh
  obtain⟨t1,rfl⟩:=rv1
  refine⟨by rw [l1,Oh];lia,joinParts_cons (FormattedValue_plain (cA (hb pins s1 σ H1 _ I1 ⟨F,x,fp,_,x',R,h1,fun F2 H2 v fp2 X2 R2 A2=>(⟨bS.mp A2,F2,fp2,X2,R2⟩:v=.int i∧∃F2 fp2,bY [] σ F H1 x.1 (Fo x.2 fp) σ F2 H2 x'.1 (Fo x'.2 fp2)∧a_ K C F2 H2 σ x'.1 x'.2 fp2)⟩) fun v s2 ⟨yv,H2,I2,rv2,ey,F2,fp2,X2,R2⟩=>?_))⟩
  subst ey
  obtain⟨t2,rfl⟩:=rv2
  have hl2:=hc.2.2
  refine formatField_int_small (by lia) ⟨by rw [oQ,l1,Oh];lia,joinParts_nil ⟨.str _,H2,(I2.tok _).tok _,⟨_,rfl⟩,q F2 H2 _ fp2 X2 R2 (iI.mpr rfl)⟩ (by rw [oQ,l1,Oh];lia)⟩
end
theorem CA{K:Ng}{F H:Hp}(sm:ao F H){rs:List Ar}{vs:List V}(hl:rs.length=vs.length)(hd:∀(k:Nat) (d:Nf),rs[k]?=some (.inr d)→∃v,vs[k]?=some v∧DA K F d v):aW K F H (vs.map some) (pZ rs):=by
  refine⟨sm,by unfold pZ;simp [hl],fun i y hy=>?_,fun i ys hy=>?_,fun i ys hy=>?_,fun i j a hi _=>absurd ⟨i,hi⟩ (eC (eJ rs))⟩
  · rcases iJ hy with ⟨_,_,w⟩ | ⟨d,hk,w⟩
    · cases w
    · cases w
      obtain⟨v,g1,g2⟩:=hd _ _ hk
      exact⟨v,by rw [NT,g1];rfl,g2⟩
  · rcases iJ hy with ⟨_,_,w⟩ | ⟨_,_,w⟩<;>cases w
  · rcases iJ hy with ⟨_,_,w⟩ | ⟨_,_,w⟩<;>cases w
section
variable{K:Ng}{C:xM}{F H F' H':Hp}{σ:L2.St}{e:En}{ob:je}{fp:Lc→List xM}{i:Nat}
def ng(i:Nat)(ob:je):je:=ob.filter fun p=> !(p.1.slot==i)
theorem a_.fresh(R:a_ K C F H σ e ob fp){v:V}{o:Ob}{fs:List xM}(sF:ao F F')(sm:ao F' H')(dom:∀a,H' a=none→H a=none)(tmp:∀a u,H a=some u→H' a=some u)
    (fr:∀a,F a=none→(∃u,H a=some u∧(kept u=true∨Dn u=true))→F' a=none)(hi:i < e.length)(hfs:∀a∈fs,H a=none)(ho:mZ K C F' H' o v fs):
    bY [i] σ F H e (Fo ob fp) (σ.set i (some v)) F' H' (e.set i none) (Fo ((.s i,o)::ng i ob) fun c=>if c=.s i then fs else fp c)∧a_ K C F' H' (σ.set i (some v)) (e.set i none) ((.s i,o)::ng i ob) fun c=>if c=.s i then fs else fp c:=by
  obtain⟨R2,o2⟩:=R.rel.keep sF sm (fun a h=>by
    obtain⟨j,hj⟩:=h
    obtain⟨h1,vs,h2⟩:=R.rel.fpAt hj
    exact fr a h1 ⟨_,h2,.inl rfl⟩) (fun a o h q=>tmp a o q)
  have R3:=(R2.drop i).poke (some v)
  have o3:∀a,bz (σ.set i (some v)) (e.set i none) H' a→bz σ e H a:=fun a ⟨j,z⟩=>(o2 a).mp (bz.drop ⟨j,iK.mp z⟩)
  have mo:∀{p},p∈ng i ob→p∈ob∧p.1.slot≠i:=fun{p} h=>by
    obtain⟨h1,h2⟩:=Pn.mp h
    exact⟨h1,by simpa using h2⟩
  have ne:∀{p:Lc × Ob},p.1.slot≠i→p.1≠.s i:=fun h z=>h (by rw [z];rfl)
  have sub:∀a,Fo ((.s i,o)::ng i ob) (fun c=>if c=.s i then fs else fp c) a→Fo ob fp a∨H a=none:=by
    rintro a ⟨p,hp,ha⟩
    rcases Na hp with rfl | hp
    · simp only [if_true] at ha;exact .inr (hfs a ha)
    · obtain⟨h1,h2⟩:=mo hp
      simp only [if_neg (ne h2)] at ha
      exact .inl ⟨p,h1,ha⟩
  refine⟨⟨sF,dom,fun a vs h1 h2 _ _=>fr a h1 ⟨_,h2,.inl rfl⟩,fun a vs h=>⟨vs,tmp a _ h⟩,fun a u h _ _=>tmp a u h,fun a z=>?_,fun j n=>NC (fun z=>n (by simp [z])),fun a m h1 h2 _ _=>fr a h1 ⟨_,h2,.inr m.2⟩⟩,R3,fun p hp=>?_,?_,fun a ha z=>?_⟩
  · rcases z with z | z
    · exact .inl (.inl (o3 a z))
    · exact(sub a z).imp_left .inr
  · rcases Na hp with rfl | hp
    · refine⟨Os hi,v,?_,by simpa using ho⟩
      show(σ.set i (some v))[i]?=_
      exact Os (by rw [R.rel.len];exact hi)
    · obtain⟨h1,h2⟩:=mo hp
      obtain⟨c1,u,c2,c3⟩:=R.obs p h1
      refine⟨by rw [NC (NJ h2)];exact c1,u,c2.mono sF (NC (NJ h2)),?_⟩
      simp only [if_neg (ne h2)]
      refine c3.mono sF (fun a ha=>?_) fun a ha=>?_
      · obtain⟨g1,w,g2,g3⟩:=R.at ⟨p,h1,ha⟩
        exact fr a g1 ⟨w,g2,.inl g3⟩
      · obtain⟨g1,w,g2,g3⟩:=R.at ⟨p,h1,ha⟩
        rw [g2];exact tmp a w g2
  · intro p hp q hq hne a ha hb
    rcases Na hp with rfl | hp
    · simp only [if_true] at ha
      rcases Na hq with rfl | hq
      · exact hne rfl
      · obtain⟨h1,h2⟩:=mo hq
        simp only [if_neg (ne h2)] at hb
        exact R.hn a ⟨q,h1,hb⟩ (hfs a ha)
    · obtain⟨h1,h2⟩:=mo hp
      simp only [if_neg (ne h2)] at ha
      rcases Na hq with rfl | hq
      · simp only [if_true] at hb
        exact R.hn a ⟨p,h1,ha⟩ (hfs a hb)
      · obtain⟨g1,g2⟩:=mo hq
        simp only [if_neg (ne g2)] at hb
        exact R.dis p h1 q g1 hne a ha hb
  · rcases sub a ha with w | w
    · exact R.own a w (o3 a z)
    · exact R.rel.ownH a (o3 a z) w
end
section
variable{X:Cx}{K:Ng}{C:xM}{fa fb:XE}{fs:XR}{f0:FS}{a b:Nh}{es:List Nh}{cn:List Nm}{pos apos p p2:Pos}{W:List Nat}
def As(i:Nat)(m:MX)(fa:XE):XS:=fun x=>(fa x).bind fun p=>(m ([none,some (.d p.1)],[(.s 0,.dk [])])).bind fun z=>match z with
  | (.none,[(.s 0,.dk fs)])=>if i < p.2.1.length then some (.nx (p.2.1.set i none,(.s i,.dk fs)::ng i p.2.2)) else none
  | _=>none
theorem Ab{i k:Nat}{x y:Str}{f:xM}{fd:Nx}{ps:List Str}{m:MX}{pos' cpos:Pos}(hK:X.K=K)(M:Mk K C f)(G:aG X.prog X.w X.K X.mg X.base cc k f fd ps (mT K C 2 m))(hr:bK (k+1) X.A)(hg:Gl X y)(hm:X.mg y=some (.ref C))(hb:dz X.K fd ps [])(ha:PE X a (iw K C fa))
    (hN:X.N.Nodup)(hi:X.N[i]?=some x)(hx:yj X.env.scope x)(hst:PJ a=false)(hdb:(y==("__debug__":Str))=false)(he:Nq [a] X.env=(false,Nt a X.env)::Nq [] X.env)(hpl:(ND cpos (Nq [] X.env)).any (·.1)=false)
    (hs:Pa (.Call (.Name y p) [a] [] cpos) (some (.Name x pos')) pos.line X.env=pure false)(hf:X.fn x=true∨X.env.scope.names.lookup x=some .local):
    PS X (.Assign [.Name x pos'] (.Call (.Name y p) [a] [] cpos) pos) (p7 K C (As i m fa) [i]):=by
  subst hK
  refine(o_ hN hi hx (Cg M G hr hg hm hb .nil uo (vF ha gR hst) hdb he hpl) hs hf).mono fun D σ H h=>?_
  obtain⟨F,x,fp,fl,R,hf,q⟩:=h
  unfold As at hf
  obtain⟨⟨d,x1⟩,h1,hf⟩:=M7 hf
  obtain⟨⟨r,oc⟩,h2,hf⟩:=M7 hf
  dsimp only at hf h2
  split at hf
  case h_2=>cases hf
  case h_1 fs heq=>
  cases heq
  split at hf
  case isFalse=>cases hf
  case isTrue hlt=>
  cases hf
  refine⟨F,x,fp,d,x1,R,h1,fun F1 H1 v fp1 X1 R1 A1=>fun o dx ho hdx hne=>?_⟩
  show mT X.K C 2 m (.ref o::([v]++[])) _ _ _
  let H2:Hp:=bw (bw H1 dx (.own o)) o (.ins C dx [])
  have up:∀a u,H1 a=some u→H2 a=some u:=fun a u z=>by
    have n1:a≠o:=fun w=>by rw [w,ho] at z;cases z
    have n2:a≠dx:=fun w=>by rw [w,hdx] at z;cases z
    show bw (bw H1 dx _) o _ a=_
    rw [av n1,av n2];exact z
  have dn:∀a,H2 a=none→H1 a=none:=fun a z=>by
    cases w:H1 a with
    | none=>rfl
    | some u=>rw [up a u w] at z;cases z
  have sm2:ao F1 H2:=fun a u z=>up a u (R1.rel.sm a u z)
  have fo:F1 o=none:=R1.rel.freeF ho
  have Rc:a_ X.K C F1 H2 ([V.ref o,v].map some) (pZ [.inl (.s 0),.inr d]) [(.s 0,.dk [])] fun _=>[o]:=by
    refine⟨CA sm2 rfl fun k d' hk=>?_,fun p hp=>?_,fun p hp q hq hne=>?_,fun a _=>eC (eJ _)⟩
    · match k,hk with
      | 1,hk=>cases hk;exact⟨v,rfl,A1⟩
    · rw [NX] at hp
      subst hp
      exact⟨rfl,.ref o,rfl,o,dx,[],rfl,rfl,fo,ar,rfl⟩
    · rw [NX] at hp hq
      subst hp;subst hq
      exact absurd rfl hne
  refine⟨rfl,F1,(pZ [.inl (.s 0),.inr d],[(.s 0,.dk [])]),_,_,_,Rc,eJ _,h2,fun F' H' w fq X3 R3 A3=>⟨eu.mp A3,?_⟩⟩
  have nO:∀a,¬bz ([V.ref o,v].map some) (pZ [.inl (.s 0),.inr d]) H2 a:=fun a=>eC (eJ _)
  have nS:∀a u,H1 a=some u→¬Fo [((Lc.s 0:Lc),Ob.dk [])] (fun _=>[o]) a:=fun a u z=>by
    rintro⟨p,_,hp⟩
    rw [NX] at hp
    rw [hp,ho] at z;cases z
  obtain⟨_,u,g1,g2⟩:=R3.obs _ (NX.mpr rfl)
  have g1:some (some (V.ref o))=some (some u):=g1
  cases g1
  have g2':=g2
  obtain⟨o',dx',gs,e1,e2,e3,e4,e5⟩:=g2
  cases e1
  obtain⟨Y,R4⟩:=R1.fresh (i:=i) (v:=.ref o) (o:=.dk fs) (fs:=[o]) (F':=F') (H':=H') X3.sf R3.rel.sm (fun a z=>dn a (X3.dom a z)) (fun a u z=>X3.tmp a u (up a u z) (nO a) (nS a u z))
    (fun a g1 ⟨u,g2,g3⟩=>by
      by_cases k:Dn u=true
      · exact X3.fd a ⟨u,k⟩ g1 (up a u g2) (nO a) (nS a u g2)
      · rcases g3 with g3 | g3
        · cases u with
          | lst us=>exact X3.fr a us g1 (up a _ g2) (nO a) (nS a _ g2)
          | ins c d fs=>exact absurd rfl k
          | _=>cases g3
        · exact absurd g3 k) hlt (fun a ha=>by rw [NX] at ha;rw [ha];exact ho) ⟨o,dx',gs,rfl,rfl,e3,e4,e5⟩
  exact q F' H' _ _ ((X1.mono (fun j h=>by cases h)).trans Y) R4
def Au(i:Nat):XS:=fun x=>if i < x.1.length then some (.nx (x.1.set i none,(.s i,.st [] [])::ng i x.2)) else none
theorem x5{i j:Nat}{x:Str}{pos' q1 q2 q3:Pos}(hN:X.N.Nodup)(hi:X.N[i]?=some x)(hx:yj X.env.scope x)(hs:Pa (.Tuple [.List [] q1,.List [] q2] j q3) (some (.Name x pos')) pos.line X.env=pure false)(hf:X.fn x=true∨X.env.scope.names.lookup x=some .local):
    PS X (.Assign [.Name x pos'] (.Tuple [.List [] q1,.List [] q2] j q3) pos) (p7 K C (Au i) [i]):=by
  refine(o_ hN hi hx (zP (vF (vG gR) (vF (vG gR) gR rfl) rfl)) hs hf).mono fun D σ H h=>?_
  obtain⟨F,x,fp,fl,R,hf,q⟩:=h
  unfold Au at hf
  split at hf
  case isFalse=>cases hf
  case isTrue hlt=>
  cases hf
  refine⟨OS _,fun l hl=>⟨OS _,fun m hm=>⟨by show 2≤Ny;decide,fun t ht=>?_⟩⟩⟩
  have nm:m≠l:=fun w=>by rw [w,ar] at hm;cases hm
  have nt:t≠m:=fun w=>by rw [w,ar] at ht;cases ht
  rw [av nm] at hm
  rw [av nt] at ht
  have ntl:t≠l:=fun w=>by rw [w,ar] at ht;cases ht
  rw [av ntl] at ht
  let H2:Hp:=bw (bw (bw H l (.lst [])) m (.lst [])) t (.tup [.ref l,.ref m])
  have up:∀a u,H a=some u→H2 a=some u:=fun a u z=>by
    have n1:a≠t:=fun w=>by rw [w,ht] at z;cases z
    have n2:a≠m:=fun w=>by rw [w,hm] at z;cases z
    have n3:a≠l:=fun w=>by rw [w,hl] at z;cases z
    show bw (bw (bw H l _) m _) t _ a=_
    rw [av n1,av n2,av n3];exact z
  have dn:∀a,H2 a=none→H a=none:=fun a z=>by
    cases w:H a with
    | none=>rfl
    | some u=>rw [up a u w] at z;cases z
  have fr:∀{a},H a=none→F a=none:=fun h=>R.rel.freeF h
  have sF:ao F (bw F t (.tup [.ref l,.ref m])):=ao.new (fr ht)
  have hl2:H2 l=some (.lst []):=by show bw (bw (bw H l _) m _) t _ l=_;rw [av (NJ ntl),av (NJ nm),ar]
  have hm2:H2 m=some (.lst []):=by show bw (bw (bw H l _) m _) t _ m=_;rw [av (NJ nt),ar]
  obtain⟨Y,R4⟩:=R.fresh (i:=i) (v:=.ref t) (o:=.st [] []) (fs:=[l,m]) (F':=bw F t (.tup [.ref l,.ref m])) (H':=H2) sF (fun a u z=>by
      by_cases w:a=t
      · subst w;rw [ar] at z;cases z;exact ar
      · rw [av w] at z;exact up a u (R.rel.sm a u z)) dn up (fun a z ⟨u,g,_⟩=>by
      have:a≠t:=fun w=>by rw [w,ht] at g;cases g
      rw [av this];exact z) hlt (fun a ha=>by
      rcases Na ha with w | w
      · rw [w];exact hl
      · rw [NX] at w;rw [w];exact hm)
    ⟨t,l,m,[],[],rfl,rfl,fun w=>nm w.symm,.inl (.inl ar),by rw [av (NJ ntl)];exact fr hl,by rw [av (NJ nt)];exact fr hm,hl2,hm2,aQ.nil,aQ.nil⟩
  exact q _ _ _ _ Y R4
end
section
variable{X:Cx}{K:Ng}{C:xM}{f0:FS}{cn:List Nm}{pos p p1 p2 p3:Pos}{W:List Nat}
def pC(c i j:Nat)(W:List Nat)(f:FS):XS:=fun x=>match x.2 with
  | [(.s k,.st xs ys)]=>if k=c∧i < x.1.length∧j < x.1.length∧i≠j∧c≠i∧c≠j∧i∉W∧j∉W∧c∉W then(f (((x.1.set i none).set j none).set i (some (.l xs)) |>.set j (some (.l ys)))).bind fun fl=>match fl with
      | .rt r e=>(gO r).bind fun d=>match e[i]?,e[j]?,e[c]? with
        | some (some (.l xs')),some (some (.l ys')),some none=>some (.rt d ((e.set i none).set j none,[(.s k,.st xs' ys')]))
        | _,_,_=>none
      | _=>none
    else none
  | _=>none
theorem x6{c i j k:Nat}{x y z:Str}(hK:X.K=K)(hc:X.calm=true)(ho:PE X (.Name z p) (pP c))(hN:X.N.Nodup)(hi:X.N[i]?=some x)(hj:X.N[j]?=some y)(hx:yj X.env.scope x)(hy:yj X.env.scope y)(hfx:X.fn x=true∨X.env.scope.names.lookup x=some .local)(hfy:X.fn y=true∨X.env.scope.names.lookup y=some .local)
    (hs:Qc [.Tuple [.Name x p1,.Name y p2] k p3] (.Name z p) pos.line X.env=pure false)(hw:Qd [.Tuple [.Name x p1,.Name y p2] k p3] (.Name z p) X.env=pure none)(h1:(NY [.Tuple [.Name x p1,.Name y p2] k p3] X.env).map (·.2)=[assign (.Tuple [.Name x p1,.Name y p2] k p3) X.env])
    (hn:(NY [.Name x p1,.Name y p2] X.env).length=2)(hst:(NY [.Name x p1,.Name y p2] X.env).findIdx? (·.1)=none)(ha:(NY [.Name x p1,.Name y p2] X.env).map (·.2)=assign (.Name x p1) X.env::(NY [.Name y p2] X.env).map (·.2))(hb:(NY [.Name y p2] X.env).map (·.2)=assign (.Name y p2) X.env::(NY [] X.env).map (·.2))
    (hr:jh X cn (fS K f0 W)):jh X (.Assign [.Tuple [.Name x p1,.Name y p2] k p3] (.Name z p) pos::cn) (p7 K C (pC c i j W f0) (i::j::W)):=by
  refine(ly (zU ho (wF hK hc (o6 (sC hN hi hx hfx) (o6 (sC hN hj hy hfy) wG hb) ha) hn hst) hs hw h1) hr).mono fun D σ H h=>?_
  obtain⟨F,⟨e,ob⟩,fp,fl,R,hf,q⟩:=h
  unfold pC at hf
  dsimp only at hf
  split at hf
  case h_2=>cases hf
  case h_1 kk xs ys=>
  split at hf
  case isFalse=>cases hf
  case isTrue hcnd=>
  obtain⟨rfl,li,lj,nij,nci,ncj,wi,wj,wc⟩:=hcnd
  obtain⟨fl1,g1,hf⟩:=M7 hf
  obtain⟨c1,v,c2,c3⟩:=R.obs _ (NX.mpr rfl)
  obtain⟨t,l,m,vs,us,rfl,efp,nlm,st,fl0,fm0,hl,hm,dx,dy⟩:=c3
  have c2:σ[kk]?=some (some (.ref t)):=c2
  have nf:∀a,a∈[l,m]→¬bz σ e H a:=fun a ha=>R.own a ⟨_,NX.mpr rfl,by rw [efp];exact ha⟩
  have R1:=((R.rel.drop i).poke (some (V.ref l)))
  have R2:=((R1.drop j).poke (some (V.ref m)))
  have lenσ:σ.length=e.length:=R.rel.len
  refine⟨_,c2,t,[.ref l,.ref m],rfl,R.rel.sm.tup st,rfl,.ref l,[.ref m],rfl,.ref m,[],rfl,rfl,?_⟩
  let e0:En:=(e.set i none).set j none
  have R2':aW K F H ((σ.set i (some (.ref l))).set j (some (.ref m))) e0:=R2
  have ow0:∀a,bz ((σ.set i (some (.ref l))).set j (some (.ref m))) e0 H a→bz σ e H a:=fun a ⟨q,z⟩=>by
    have z1:Fp (σ.set i (some (.ref l))) ((e.set i none).set j none) H q a:=iK.mp z
    exact bz.drop ⟨q,iK.mp z1.drop⟩
  obtain⟨R3,o3⟩:=R2'.setL i (xs:=xs) (l:=l) fl0 hl dx (fun z=>nf l (by simp) (ow0 l z))
  have eσ:((σ.set i (some (V.ref l))).set j (some (V.ref m))).set i (some (V.ref l))=(σ.set i (some (V.ref l))).set j (some (V.ref m)):=by
    refine Pj fun q=>?_
    by_cases z:i=q
    · subst z
      rw [Os (by simp;lia),NC (NJ nij),Os (by lia)]
    · rw [NC z]
  rw [eσ] at R3 o3
  obtain⟨R4,o4⟩:=R3.setL j (xs:=ys) (l:=m) fm0 hm dy (fun z=>by
    rcases o3 m z with w | w
    · exact nf m (by simp) (ow0 m w)
    · exact nlm w.symm)
  have eσ2:((σ.set i (some (V.ref l))).set j (some (V.ref m))).set j (some (V.ref m))=(σ.set i (some (V.ref l))).set j (some (V.ref m)):=by rw [List.set_set]
  rw [eσ2] at R4 o4
  have ow4:∀a,bz ((σ.set i (some (.ref l))).set j (some (.ref m))) ((e0.set i (some (.l xs))).set j (some (.l ys))) H a→bz σ e H a∨Fo [((Lc.s kk:Lc),Ob.st xs ys)] fp a:=fun a z=>by
    have fo:∀b∈[l,m],Fo [((Lc.s kk:Lc),Ob.st xs ys)] fp b:=fun b hb=>⟨_,NX.mpr rfl,by rw [efp];exact hb⟩
    rcases o4 a z with w | w
    · rcases o3 a w with w | w
      · exact .inl (ow0 a w)
      · rw [w];exact .inr (fo l (by simp))
    · rw [w];exact .inr (fo m (by simp))
  refine⟨F,_,fl1,R4,g1,?_⟩
  cases fl1 with
  | rt r e'=>
    obtain⟨d,h2,hf⟩:=M7 hf
    split at hf
    case h_2=>cases hf
    case h_1 xs' ys' ei ej ec=>
    cases hf
    intro F' H' σ' v X' R' A'
    have si:σ'[i]?=some (some (.ref l)):=by rw [X'.wr i wi,NC (NJ nij),Os (by lia)]
    have sj:σ'[j]?=some (some (.ref m)):=by rw [X'.wr j wj,Os (by simp;lia)]
    have sc:σ'[kk]?=some (some (.ref t)):=by rw [X'.wr kk wc,NC (NJ ncj),NC (NJ nci)];exact c2
    obtain⟨l',vs',a1,a2,a3,a4⟩:=R'.own i xs' ei
    rw [si] at a1;cases a1
    obtain⟨m',us',b1,b2,b3,b4⟩:=R'.own j ys' ej
    rw [sj] at b1;cases b1
    obtain⟨F2,R2,s2,D2,f2⟩:∃F2,aW K F2 H' σ' e'∧ao F' F2∧DA K F2 d v∧∀a,F' a=none→H a≠none→F2 a=none:=by
      cases r with
      | d x=>cases h2;exact⟨F',R',ao.refl _,A',fun _ h _=>h⟩
      | s q=>cases h2
      | l zs=>cases h2;exact A'.frozen R'
    have fpi:Fp σ' e' H' i l:=.inl ⟨xs',ei,si⟩
    have fpj:Fp σ' e' H' j m:=.inl ⟨ys',ej,sj⟩
    have non:∀{q:Nat} {a:xM},Fp σ' ((e'.set i none).set j none) H' q a→q≠i∧q≠j:=fun{q a} z=>by
      have key:∀s:Sv,((e'.set i none).set j none)[q]?=some (some s)→q≠i∧q≠j:=fun s w=>by
        refine⟨fun z=>?_,fun z=>?_⟩
        · subst z
          have:=kZ w
          rw [PP,if_pos rfl] at this
          split at this<;>cases this
        · subst z
          rw [PP,if_pos rfl] at w
          split at w<;>cases w
      rcases z with ⟨zs,w,_⟩ | ⟨zs,_,_,w,_⟩
      · exact key _ w
      · exact key _ w
    have hdrop:∀a,bz σ' ((e'.set i none).set j none) H' a→bz σ' e' H' a:=fun a z=>bz.drop (bz.drop z)
    have hln:H l≠none:=by rw [hl];simp
    have hmn:H m≠none:=by rw [hm];simp
    refine q F2 H' σ' v fp ⟨X'.sf.trans s2,X'.dom,fun a ws h1 h2 n1 n2=>f2 a (X'.fr a ws h1 h2 fun z=>(ow4 a z).elim n1 n2) (by rw [h2];simp),X'.lst,fun a o h n1 n2=>X'.tmp a o h fun z=>(ow4 a z).elim n1 n2,fun a z=>?_,fun q hq=>?_,fun a o h1 h2 n1 n2=>f2 a (X'.fd a o h1 h2 fun z=>(ow4 a z).elim n1 n2) (by rw [h2];simp)⟩ ⟨(R2.drop i).drop j,fun p hp=>?_,fun p hp p' hp' hne=>?_,fun a ha z=>?_⟩ D2
    · rcases z with z | z
      · rcases X'.own a (hdrop a z) with w | w
        · exact .inl (ow4 a w)
        · exact .inr w
      · obtain⟨p,hp,ha⟩:=z
        rw [NX] at hp
        subst hp
        exact .inl (.inr ⟨_,NX.mpr rfl,ha⟩)
    · have h1:q≠i:=fun z=>hq (by simp [z])
      have h2:q≠j:=fun z=>hq (by simp [z])
      have h3:q∉W:=fun z=>hq (by simp [z])
      rw [X'.wr q h3,NC (NJ h2),NC (NJ h1)]
    · rw [NX] at hp
      subst hp
      refine⟨?_,.ref t,sc,t,l,m,vs',us',rfl,efp,nlm,(X'.sf.trans s2).tup st,f2 l a2 hln,f2 m b2 hmn,a3,b3,a4.mono s2,b4.mono s2⟩
      show((e'.set i none).set j none)[kk]?=_
      rw [NC (NJ ncj),NC (NJ nci)]
      exact ec
    · rw [NX] at hp hp'
      subst hp;subst hp'
      exact absurd rfl hne
    · obtain⟨p,hp,ha⟩:=ha
      rw [NX] at hp
      subst hp
      have ha:a∈fp (Lc.s kk):=ha
      rw [efp] at ha
      obtain⟨q,zq⟩:=z
      obtain⟨n1,n2⟩:=non zq
      rcases Na ha with w | w
      · subst w;exact n1 (R'.fp q i _ zq.drop.drop fpi)
      · rw [NX] at w;subst w;exact n2 (R'.fp q j _ zq.drop.drop fpj)
  | nx e'=>cases hf
  | bk e'=>cases hf
  | ct e'=>cases hf
end
structure Gk (K:Ng) (w:Nj) (a:xM) (ms:List (Str × xM)):Prop where
  at_:∃es n,K.lookup a=some ⟨.type "dict",none,.dict es n,#[]⟩∧Paired (fun(e:Pu) (p:Str × xM)=>e.hash=hashStr w p.1∧(∃t,e.key=.str p.1 t)∧e.val=.ref p.2) es.toList ms
  nod:(ms.map (·.1)).Nodup
  sys:(a==sysModules)=false
theorem mq(x:Str):∀(ms:List (Str × xM)),valueAt (ms.map fun p=>((Sum.inr p.1:jg),Value.ref p.2)) (Sum.inr x)=(ms.lookup x).map Value.ref
  | []=>rfl
  | (y,a)::r=>by
    rw [NU,NP]
    unfold valueAt
    rw [List.find?_cons]
    cases c:x==y with
    | true=>
      rw [show decide ((Sum.inr y:jg)=Sum.inr x)=true from decide_eq_true (by rw [eq_of_beq c])]
      rfl
    | false=>
      rw [show decide ((Sum.inr y:jg)=Sum.inr x)=false from decide_eq_false (fun z=>by rw [Sum.inr.inj z] at c;simp at c)]
      exact mq x r
theorem Gk.dict{P:Nl}{w:Nj}{K:Ng}{a:xM}{ms:List (Str × xM)}(T:Gk K w a ms){h:Nk}(X:K.In h):h.DictOf (eA P w) a (ms.map fun p=>((Sum.inr p.1:jg),Value.ref p.2)):=by
  obtain⟨es,n,h1,h2⟩:=T.at_
  refine⟨_,es,n,X a _ h1,⟨rfl,rfl,rfl⟩,rfl,fun e he=>?_,?_,?_⟩
  · have:∀{l:List Pu} {ms:List (Str × xM)},Paired (fun(e:Pu) (p:Str × xM)=>e.hash=hashStr w p.1∧(∃t,e.key=.str p.1 t)∧e.val=.ref p.2) l ms→∀e∈l,∃k:jg,(eA P w).is k e.key=true∧e.hash=(eA P w).hash k:=by
      intro l ms h
      induction h with
      | nil=>intro e he;cases he
      | @cons e p l ms h _ ih=>
        intro e' he
        rcases Na he with rfl | he
        · obtain⟨g1,⟨t,g2⟩,_⟩:=h
          exact⟨Sum.inr p.1,by rw [g2];exact jN p.1 t,g1⟩
        · exact ih e' he
    exact this h2 e (by simpa using he)
  · have:∀{l:List Pu} {ms:List (Str × xM)},Paired (fun(e:Pu) (p:Str × xM)=>e.hash=hashStr w p.1∧(∃t,e.key=.str p.1 t)∧e.val=.ref p.2) l ms→Pairs (eA P w) l (ms.map fun p=>((Sum.inr p.1:jg),Value.ref p.2)):=by
      intro l ms h
      induction h with
      | nil=>exact .nil
      | @cons e p l ms h _ ih=>
        obtain⟨_,⟨t,g2⟩,g3⟩:=h
        refine .cons (kv:=(_,_)) ?_ g3 ih
        show tY (Sum.inr p.1) e.key=true
        rw [g2];exact jN _ t
    exact this h2
  · have:(ms.map fun p=>((Sum.inr p.1:jg),Value.ref p.2)).map (·.1)=(ms.map (·.1)).map Sum.inr:=by simp [Pk,Function.comp]
    rw [this]
    exact List.pairwise_map.mpr (T.nod.imp fun h z=>h (Sum.inr.inj z))
section
variable{X:Cx}{K:Ng}{C:xM}{a b:Nh}{fa:FE}{cn:List Nm}{pos p p1 p2 p3:Pos}{W:List Nat}
def AI(ks:List Str)(fa:FE):FT:=fun e=>(fa e).bind fun p=>(bR p.1).map fun y=>(ks.any fun k=>y==k,p.2)
theorem ua(y:Str):∀(ms:List (Str × xM)),(ms.lookup y).isSome=(ms.map (·.1)).any fun k=>y==k
  | []=>rfl
  | (k,a)::r=>by
    rw [NU,NP,QL]
    cases c:y==k with
    | true=>rfl
    | false=>simpa [c] using ua y r
theorem FB{x:Str}{q:xM}{ms:List (Str × xM)}{ks:List Str}(hK:X.K=K)(T:Gk K X.w q ms)(hks:ms.map (·.1)=ks)(ha:PE X a (fE K fa))(hg:Gl X x)(hm:X.mg x=some (.ref q))(hd:(x==("__debug__":Str))=false)(hb:OK .In (.Name x p)=false):PT X (.Compare a [.In] [.Name x p] pos) (fT K (AI ks fa)):=by
  subst hK
  subst hks
  have pc:PC X .In a (.Name x p) (fun σ H Q=>fE X.K fa σ H fun v H1=>∃y:Str,v=.str y∧Q (.bl (ms.lookup y).isSome) H1):=by
    intro pins s σ H Q I h
    refine cA (ha pins s σ H _ I h) fun iv s1 ⟨v,H1,I1,r1,y,ey,q1⟩=>lh I1 hg hm ?_ hd
    subst ey
    obtain⟨t,rfl⟩:=r1
    refine wpAny_in_of (knd:=eA X.prog X.w) (k:=Sum.inr y) (show(eA X.prog X.w).is (Sum.inr y) (.str y t)=true from jN y t) T.sys (T.dict I1.kIn).mapOf ?_
    rw [mq,Option.isSome_map]
    exact⟨.bl _,H1,I1.tok _,rfl,q1⟩
  refine(Fm pc hb).mono fun σ H Q h=>?_
  obtain⟨F,e,bb,e',R,hf,q⟩:=h
  unfold AI at hf
  obtain⟨⟨r,e1⟩,h1,hf⟩:=M7 hf
  obtain⟨y,h2,hf⟩:=M8 hf
  cases hf
  exact⟨F,e,r,_,R,h1,fun F1 H1 v X1 R1 A1=>⟨y,cV A1 h2,_,rfl,by rw [ua];exact q F1 H1 X1 R1⟩⟩
def IR(X:Cx)(k:Nat)(f:xM)(m:FM):Prop:=∃fd ps,aG X.prog X.w X.K X.mg X.base cc k f fd ps (dw X.K 2 m)∧dz X.K fd ps []∧Po X.K (.ref f)=true
def wR(i il iq:Nat)(qs:List (Str × FM)):XS:=fun x=>match x.1[il]? with
  | some (some (.d (.str y)))=>(qs.lookup y).bind fun m=>if jS [iq] x.2=true∧iq < x.1.length then bH (nv 2 m (bT (bV i "web") (bT (bV i "run") ip))) (x.1.set iq none,x.2) else none
  | _=>none
theorem Ac{i il iq k:Nat}{x y z:Str}{qa:xM}{ms:List (Str × xM)}{qs:List (Str × FM)}{e1 e2:Nh}{pos' rp cp:Pos}(hK:X.K=K)(T:Gk K X.w qa ms)(hr:bK k X.A)(hq:∀(u:Str) (m:FM),qs.lookup u=some m→∃f,ms.lookup u=some f∧IR X k f m)
    (hg:Gl X x)(hm:X.mg x=some (.ref qa))(hd:(x==("__debug__":Str))=false)(hl:PE X (.Name y p1) (pP il))(hN:X.N.Nodup)(hi:X.N[iq]?=some z)(hz:yj X.env.scope z)(hsw:Pa (.Subscript (.Name x p) (.Name y p1) p2) (some (.Name z pos')) pos.line X.env=pure false)(hf:X.fn z=true∨X.env.scope.names.lookup z=some .local)
    (hv:PE X (.Name z p3) (pP iq))(ha:PA X [e1,e2] (Br K C (bT (bV i "web") (bT (bV i "run") ip))))(hst:Nq [e1,e2] X.env=(false,Nt e1 X.env)::Nq [e2] X.env)(hpl:(ND cp (Nq [e2] X.env)).any (·.1)=false):
    jh X [.Assign [.Name z pos'] (.Subscript (.Name x p) (.Name y p1) p2) pos,.Return (some (.Call (.Name z p3) [e1,e2] [] cp)) rp] (p7 K C (wR i il iq qs) [iq]):=by
  subst hK
  have look:PE X (.Subscript (.Name x p) (.Name y p1) p2) (fun σ H Q=>∃(u:Str) (f:xM),σ[il]?=some (some (.str u))∧ms.lookup u=some f∧Q (.ref f) H):=by
    intro pins s σ H Q I h
    obtain⟨u,f,h1,h2,q⟩:=h
    refine CN PySem.F.slot_dict_getitem.lookup (fun _ _=>rfl) (lh I hg hm (cA (hl pins s σ H (fun v H1=>v=.str u∧H1=H) I ⟨.str u,h1,rfl,rfl⟩) fun iv s1 ⟨v,H1,I1,r1,ev,eh⟩=>?_) hd)
    subst ev
    subst eh
    obtain⟨t,rfl⟩:=r1
    have dd:=T.dict (P:=X.prog) I1.kIn
    refine⟨dd.typeIs,wpAny_getItem_of (knd:=eA X.prog X.w) (k:=Sum.inr u) (show(eA X.prog X.w).is (Sum.inr u) (.str u t)=true from jN u t) dd.mapOf (v:=.ref f) (by rw [mq,h2];rfl) ⟨.ref f,H1,I1.tok _,rfl,q⟩⟩
  have call:PE X (.Call (.Name z p3) [e1,e2] [] cp) (fun σ H Q=>∃f m,σ[iq]?=some (some (.ref f))∧IR X k f m∧qX (dw X.K 2 m) [] E0 (Br X.K C (bT (bV i "web") (bT (bV i "run") ip))) σ H Q):=by
    intro pins s σ H Q I h
    obtain⟨f,m,h1,⟨fd,ps,G,hb,hk⟩,q⟩:=h
    refine Qf (cA (hv pins s σ H (fun v H1=>v=.ref f∧H1=H) I ⟨.ref f,h1,rfl,rfl⟩) fun fv s1 ⟨v,H1,I1,r1,ev,eh⟩=>?_)
    subst ev
    subst eh
    obtain rfl:fv=Value.ref f:=r1
    refine Qw (h₀:=X.base) I1.ok.mod.kin hk (cA (ha cp pins s1 σ H1 _ I1 q) fun us s2 ⟨vs,H2,I2,r,q2⟩=>⟨I2.kIn,?_⟩) hst hpl
    exact sM G hr hb .nil uo I2 r q2
  refine(ly (o_ hN hi hz look hsw hf) (sD (vK call))).mono fun D σ H h=>?_
  obtain⟨F,⟨e,ob⟩,fp,fl,R,hf,q⟩:=h
  unfold wR at hf
  split at hf
  case h_2=>cases hf
  case h_1 u hu=>
  obtain⟨m,h1,hf⟩:=M7 hf
  split at hf
  case isFalse=>cases hf
  case isTrue hc=>
  obtain⟨hw,hlt⟩:=hc
  obtain⟨⟨d,x1⟩,h3,hf⟩:=M8 hf
  cases hf
  obtain⟨f,g1,g2⟩:=hq u m h1
  obtain⟨v,c1,c2⟩:=R.rel.dat _ _ hu
  rw [iI.mp c2] at c1
  refine⟨u,f,c1,g1,?_⟩
  have hw':=oX hw
  have ne:∀p∈ob,iq≠p.1.slot:=fun p hp z=>hw' p hp (by rw [z];simp)
  have R2:a_ X.K C F H (σ.set iq (some (.ref f))) (e.set iq none) ob fp:=⟨(R.rel.drop iq).poke _,fun p hp=>by
    obtain⟨d1,w,d2,d3⟩:=R.obs p hp
    exact⟨by rw [NC (ne p hp)];exact d1,w,d2.mono (ao.refl _) (NC (ne p hp)),d3⟩,R.dis,fun a ha z=>by
      obtain⟨j,zj⟩:=z
      exact R.own a ha (bz.drop ⟨j,iK.mp zj⟩)⟩
  have Y:bY [iq] σ F H e (Fo ob fp) (σ.set iq (some (.ref f))) F H (e.set iq none) (Fo ob fp):=⟨ao.refl _,fun _ z=>z,fun _ _ z _ _ _=>z,fun _ vs z=>⟨vs,z⟩,fun _ _ z _ _=>z,fun a z=>.inl (z.imp_left fun⟨j,zj⟩=>bz.drop ⟨j,iK.mp zj⟩),fun j n=>NC (fun z=>n (by simp [z])),fun _ _ z _ _ _=>z⟩
  refine⟨f,m,Os (by rw [R.rel.len];exact hlt),g2,xg ⟨F,(e.set iq none,ob),fp,d,x1,R2,h3,fun F1 H1 w fp1 X1 R1 A1=>?_⟩⟩
  exact q F1 H1 _ w fp1 (Y.trans (X1.mono fun j h=>by cases h)) R1 A1
end
def zl(m:MX):FM:=fun as=>if xx (as.map some)=true then(m (as.map some,[])).map fun z=>(.d z.1,as) else none
section
variable{P:Nl}{w:Nj}{K:Ng}{C:xM}{mg:Str→Option Kz}{base:Nk}
theorem EJ{k n:Nat}{f:xM}{fd:Nx}{ps:List Str}{m:MX}(G:aG P w K mg base cc k f fd ps (mT K C n m)):aG P w K mg base cc k f fd ps (dw K n (zl m)):=G.imp fun vs H Q E h=>by
  obtain⟨hl,F,as,r,as',R,nN,hm,hn,q⟩:=h
  unfold zl at hm
  split at hm
  case isFalse=>cases hm
  case isTrue hd=>
  obtain⟨⟨d,oc⟩,h1,hm⟩:=M8 hm
  cases hm
  refine⟨hl,F,(as.map some,[]),fun _=>[],d,oc,⟨R,(fun p hp=>by cases hp),(fun p hp=>by cases hp),(fun a ⟨p,hp,_⟩=>by cases hp)⟩,hd,h1,fun F' H' v fp' X R' A=>?_⟩
  have nS:∀a,¬Fo ([]:je) (fun _=>[]) a:=fun a ⟨p,hp,_⟩=>by cases hp
  exact q F' H' v ⟨X.sf,X.dom,fun a vs h1 h2 h3=>X.fr a vs h1 h2 h3 (nS a),X.lst,fun a o h1 h2=>X.tmp a o h1 h2 (nS a),fun _=>Iff.rfl,fun a z=>absurd z (eC hd),fun a o h1 h2 h3=>X.fd a o h1 h2 h3 (nS a)⟩ R'.rel A
end
section
variable{K:Ng}{C:xM}{W:List Nat}{F H F' H':Hp}{σ σ':L2.St}{e e':En}{ob:je}{fp:Lc→List xM}{i:Nat}{S S' T:xM→Prop}
end
abbrev XN:=EX→Option (Ob × EX)
abbrev I0:=EX→Option (List Ob × EX)
abbrev Nw:=Ob × V × List xM
def J8(ts:List Nw)(a:xM):Prop:=∃t∈ts,a∈t.2.2
structure J7 (K:Ng) (C:xM) (F H:Hp) (σ:L2.St) (e:En) (S:xM→Prop) (ts:List Nw):Prop where
  at_:∀t∈ts,mZ K C F H t.1 t.2.1 t.2.2
  no:∀a,J8 ts a→¬S a∧¬bz σ e H a
  dis:ts.Pairwise fun t s=>∀a∈t.2.2,a∉s.2.2
section
variable{X:Cx}{K:Ng}{C:xM}{fa fb:XE}{fn:XN}{fs:I0}{a b:Nh}{es:List Nh}{pos p p2:Pos}{i:Nat}
end
section
variable{X:Cx}{K:Ng}{C:xM}{fa fb:XE}{fn:XN}{fs:I0}{a b:Nh}{es:List Nh}{pos p p2:Pos}{i:Nat}
end
section
variable{X:Cx}{K:Ng}{C:xM}{fs:I0}{es:List Nh}{pos:Pos}{i:Nat}
end
section
variable{X:Cx}{K:Ng}{C:xM}{fb:FE}{fs:XR}{a b:Nh}{es:List Nh}{pos:Pos}{i:Nat}
end
section
variable{K:Ng}{C:xM}{W:List Nat}{F H F' H' F2 F3:Hp}{σ σ':L2.St}{e e':En}{ob:je}{fp:Lc→List xM}{i:Nat}{S S' T:xM→Prop}
end
abbrev Kc:=EX→Option (Nat × EX)
section
variable{X:Cx}{K:Ng}{C:xM}{W W1 W2:List Nat}{st:Nm}{cn:List Nm}{f:XS}{g:Kc}{pos:Pos}{a:Nh}{i:Nat}
end
section
variable{P:Nl}{w:Nj}{K:Ng}{C:xM}{mg:Str→Option Kz}{base:Nk}
end
section
variable{X:Cx}{K:Ng}{C:xM}{fa:XE}{fn:XN}{fs:XR}{a b:Nh}{es:List Nh}{pos apos p p2:Pos}{i:Nat}
end
abbrev Gr:=Ob ⊕ Nf
abbrev XG:=EX→Option (List Gr × EX)
abbrev Gv:=V × List xM
def J1(ts:List Gv)(a:xM):Prop:=∃t∈ts,a∈t.2
def IH(K:Ng)(C:xM)(F H:Hp):List Gr→List Gv→Prop
  | [],ts=>ts=[]
  | .inl o::r,ts=>∃v as s,ts=(v,as)::s∧mZ K C F H o v as∧IH K C F H r s
  | .inr d::r,ts=>∃v s,ts=(v,[])::s∧DA K F d v∧IH K C F H r s
structure Kv (K:Ng) (C:xM) (F H:Hp) (σ:L2.St) (e:En) (S:xM→Prop) (rs:List Gr) (ts:List Gv):Prop where
  at_:IH K C F H rs ts
  no:∀a,J1 ts a→¬S a∧¬bz σ e H a
  dis:ts.Pairwise fun t s=>∀a∈t.2,a∉s.2
section
variable{X:Cx}{K:Ng}{C:xM}{F H F1 H1 F2 H2:Hp}{σ:L2.St}{fa:XE}{fn:XN}{fs:XG}{a b:Nh}{es:List Nh}{pos apos p p2:Pos}{i:Nat}
end
end L2
namespace V89
open PySem PySem.Spec PyProof.Rows L2
variable{P:Nl}{w:Nj}{K:Ng}{mg:Str→Option Kz}{base:Nk}{f:xM}{fd:Nx}
local macro_rules|`(tactic|trivial)=>`(tactic|first|exact .inl rfl|exact .inr rfl|assumption)
local macro_rules|`(¬$n:num)=>`(@qw _ _ $n _ _ (by rfl) (by rfl) (by decide))
local macro_rules|`($a∘$b)=>`(@Jo _ _ _ _ _ _ $a $b (by rfl))
theorem oA{α:Type u}{β:Type v}{f:α→β}:PM f []=[]:=rfl
theorem oz{α:Type u}{β:Type v}{f:α→β}{a:α}{l:List α}:PM f (a::l)=f a::PM f l:=rfl
theorem oq{α:Type u}{l:List α}:[]++l=l:=rfl
theorem oo{α:Type u}{a:α}{l m:List α}:(a::l)++m=a::(l++m):=rfl
theorem ox{α:Type u}{a:α}{l:List α}:(a::l)[0]?=some a:=rfl
theorem oy{α:Type u}{a:α}{l:List α}{i:Nat}:(a::l)[i+1]?=l[i]?:=rfl
theorem ou{α:Type u}{β:Type v}{a:α}{f:α→Option β}:Option.bind (some a) f=f a:=rfl
theorem oB{α:Type u}{β:Type v}{a:α}{f:α→β}:Option.map f (some a)=some (f a):=rfl
structure cf (mg:Str→Option Kz):Prop where
  b_abs:mg "abs"=none
  b_len:mg "len"=none
  b_min:mg "min"=none
  b_max:mg "max"=none
  b_range:mg "range"=none
  b_tuple:mg "tuple"=none
  b_int:mg "int"=none
  b_sorted:mg "sorted"=none
  b_zip:mg "zip"=none
  b_enumerate:mg "enumerate"=none
  b_isinstance:mg "isinstance"=none
  b_set:mg "set"=none
  b_sum:mg "sum"=none
  b_all:mg "all"=none
  DV:mg "list"=none
  b_reversed:mg "reversed"=none
  b_str:mg "str"=none
  b_ValueError:mg "ValueError"=none
abbrev Cl(P:Nl)(w:Nj)(K:Ng)(mg:Str→Option Kz)(base:Nk)(n:Str)(s:Nm)(ps:List Str)(lv k:Nat)(m:FM):Prop:=∃f fd,dA K mg n s f fd ps∧aG P w K mg base cc lv f fd ps (dw K k m)
noncomputable def my:FS:=(bg (xh (ay du (ay du (ab 0) (vC (.int 1))) (ab 1)) gG (gf (vC (.int 2)))))
noncomputable def bP:FM:=ix 2 0 [] my
theorem lL:au ["web","tie"] ["web","tie"] (ag cI):=⟨rfl,rfl,rfl,by decide+kernel,rfl,by decide+kernel,by decide+kernel⟩
theorem sy(h:dA K mg "things_of" cI f fd ["web","tie"])(T:cf mg):aG P w K mg base cc 1 f fd ["web","tie"] (dw K 2 bP):=by
  have nd:=lL.nd
  exact h.fn lL rfl rfl (fun cdv A outer s H E hr=>(@am _ _ _ _ _ (@aw _ _ _ _ _ (@nH _ _ _ _ _ _ _ _ _ _ rfl (@ck _ _ _ _ _ _ _ rfl (@ck _ _ _ _ _ _ _ rfl (¬0) ae (fun _ _=>rfl)) (¬1) (fun _ _=>rfl)) (@iX _ _) (@iY _ _ _ _ ae)))))
noncomputable def jY:FI:=(jX (ab 1))
noncomputable def cR:FT:=(az (ay (uU false) (ab 0) (dr 2 bP (aa (ab 1) (aa (ab 2) ah)))))
noncomputable def cS:FE:=(ab 2)
noncomputable def mw:FS:=(bg (aF (g1 gB) (aa (b_ [(2,"thing"),(0,"web")] 1 jY (aj 2) cR cS) ah)))
noncomputable def eN:FM:=ix 3 0 [] mw
theorem lJ:au ["web","asked","thing"] ["web","asked","thing"] (ag eS):=⟨rfl,rfl,rfl,by decide+kernel,rfl,by decide+kernel,by decide+kernel⟩
theorem sv(h:dA K mg "many_asks" eS f fd ["web","asked","thing"])(T:cf mg)(z_things_of:Cl P w K mg base "things_of" cI ["web","tie"] 1 2 bP):aG P w K mg base cc 2 f fd ["web","asked","thing"] (dw K 3 eN):=by
  obtain⟨Ls,Lu,KM,K0⟩:=z_things_of
  have nd:=lJ.nd
  exact h.fn lJ rfl rfl (fun cdv A outer s H E hr=>(@am _ _ _ _ _ (@aw _ _ _ _ _ (@aV _ _ _ _ _ _ _ _ _ (@b_len _ _ rfl) (by rfl) T.b_len ((@dJ _ _ _ _ _ _ _ _ _ _ _ _ _ [(2,"thing"),(0,"web")] ["tie"] rfl rfl (@eY _ _ _ _ _ rfl (¬1))
        (fun C s0 H0 fp=>(@aJ _ _ _ 2 _ (show OI (["thing","web","tie"]:List Str) by decide+kernel) rfl (Or.inl rfl) (by trivial))) (fun C s0 H0 fp=>(@iZ _ _ _ _ (@aN _ _ _ _ _ _ _ _ _ (@xn _ _ _ rfl hr) (¬0) (@bA _ _ _ _ _ _ _ _ _ _ _ _ _ _ _ KM K0 (hr.mono (by decide)) ((¬1)∘((¬2)∘ac)) (by rfl) (by decide) (by rfl) (by rfl)) (by with_unfolding_all rfl))))
        (fun C s0 H0 fp=>(¬2)) rfl (by rfl) (by intro _;rfl))∘ac) (by decide) (by decide) (by rfl) (by rfl)))))
noncomputable def dY:FS:=(aO (lD (ab 1) (bZ (aB (aj 3) (aB (aj 4) bM))))
    (bg (jH (ay (uU true) (ab 2) (ab 4)) (ay Di (dr 3 eN (aa (ab 0) (aa (ab 3) (aa (ab 2) ah)))) (ay du (ay du (ab 0) (vC (.int 2))) (ab 2))))))
noncomputable def bC:FM:=ix 3 2 (([3]++([4]++[]))++[]) dY
theorem gL:au ["web","stand","thing","asked","taken"] ["web","stand","thing"] (ag b6):=⟨rfl,rfl,rfl,by decide+kernel,rfl,by decide+kernel,by decide+kernel⟩
theorem lq(h:dA K mg "bears_one_more" b6 f fd ["web","stand","thing"])(T:cf mg)(z_many_asks:Cl P w K mg base "many_asks" eS ["web","asked","thing"] 2 3 eN):aG P w K mg base cc 3 f fd ["web","stand","thing"] (dw K 3 bC):=by
  obtain⟨Mv,Mw,K_,LR⟩:=z_many_asks
  have nd:=gL.nd
  exact h.fn gL rfl rfl (fun cdv A outer s H E hr=>(@af _ _ _ _ _ _ _ _ (@ph _ _ _ _ _ _ _ _ (¬1) (@gS _ _ _ _ _ _ _ _ rfl rfl (@bc _ _ _ _ _ _ _ _ (@aJ _ _ _ 3 _ nd rfl (Or.inl rfl) (by trivial)) (@bc _ _ _ _ _ _ _ _ (@aJ _ _ _ 4 _ nd rfl (Or.inl rfl) (by trivial)) (@eD _ _) (by rfl)) (by rfl)) (bu (bu gQ)) (by rfl) (by rfl)) (by rfl) (by rfl) (by rfl))
      (@am _ _ _ _ _ (@aw _ _ _ _ _ (@z7 _ _ _ _ _ _ _ _ (@pb _ _ _ _ _ _ _ _ _ (@Bn _ _ _ rfl hr) (¬2) (¬4) (by with_unfolding_all rfl)) (@z_ _ _ _ _ _ _ (@pb _ _ _ _ _ _ _ _ _ (@Bm _ _) (@bA _ _ _ _ _ _ _ _ _ _ _ _ _ _ _ K_ LR (hr.mono (by decide)) ((¬0)∘((¬3)∘((¬2)∘ac))) (by rfl) (by decide) (by rfl) (by rfl)) (@ck _ _ _ _ _ _ _ rfl (@ck _ _ _ _ _ _ _ rfl (¬0) ae (fun _ _=>rfl)) (¬2) (fun _ _=>rfl)) (aE _))))))))
noncomputable def mH:FI:=(jX (dr 2 bP (aa (ab 0) (aa (ab 2) ah))))
noncomputable def js:FE:=(dr 3 bC (aa (ab 0) (aa (ab 1) (aa (ab 2) ah))))
noncomputable def jJ:FS:=(aO (bi 3 (ay du (ab 1) (vC (.int 0))))
    (aO (i4 (uQ (az (ay (uU false) (ab 2) (ab 3))) (az (ay Df (aF (g1 gB) (aa (ab 3) ah)) (ay du (ab 0) (vC (.int 3))))))
    (bg (vC (.bool false)))
    cL)
    (bg (aF (g1 (hE tQ)) (aa (b_ [(0,"web"),(1,"stand")] 1 mH (aj 2) jc js) ah)))))
noncomputable def cK:FM:=ix 3 1 ([3]++(([]++[])++[])) jJ
theorem pK:au ["web","stand","tie","asked"] ["web","stand","tie"] (ag fH):=⟨rfl,rfl,rfl,by decide+kernel,rfl,by decide+kernel,by decide+kernel⟩
theorem vE(h:dA K mg "may_ask" fH f fd ["web","stand","tie"])(T:cf mg)(z_bears_one_more:Cl P w K mg base "bears_one_more" b6 ["web","stand","thing"] 3 3 bC)(z_things_of:Cl P w K mg base "things_of" cI ["web","tie"] 1 2 bP):aG P w K mg base cc 4 f fd ["web","stand","tie"] (dw K 3 cK):=by
  obtain⟨L1,L3,KN,Lp⟩:=z_bears_one_more
  obtain⟨Ls,Lu,KM,K0⟩:=z_things_of
  have nd:=pK.nd
  exact h.fn pK rfl rfl (fun cdv A outer s H E hr=>(@af _ _ _ _ _ _ _ _ (@aM _ _ _ _ _ 3 _ _ nd rfl (Or.inl rfl) (@ck _ _ _ _ _ _ _ rfl (¬1) ae (fun _ _=>rfl)) (by rfl) (by trivial))
      (@af _ _ _ _ _ _ _ _ (@cu _ _ _ _ _ _ _ _ _ _ _ (@qf _ _ _ _ (@pj _ _ _ _ _ _ _ _ (@aN _ _ _ _ _ _ _ _ _ (@xn _ _ _ rfl hr) (¬2) (¬3) (by with_unfolding_all rfl)) (@ko _ _ _ _ _ (@aN _ _ _ _ _ _ _ _ _ (@yx _ _) (@aV _ _ _ _ _ _ _ _ _ (@b_len _ _ rfl) (by rfl) T.b_len ((¬3)∘ac) (by decide) (by decide) (by rfl) (by rfl)) (@ck _ _ _ _ _ _ _ rfl (¬0) ae (fun _ _=>rfl)) (aE _)))))
      (@am _ _ _ _ _ (@aw _ _ _ _ _ (@mK _ _ _ _ _)))
      (@aZ _ _))
      (@am _ _ _ _ _ (@aw _ _ _ _ _ (@aV _ _ _ _ _ _ _ _ _ (@b_all _ _ _ rfl hr) (by rfl) T.b_all ((@dJ _ _ _ _ _ _ _ _ _ _ _ _ _ [(0,"web"),(1,"stand")] ["thing"] rfl rfl (@eY _ _ _ _ _ rfl (@bA _ _ _ _ _ _ _ _ _ _ _ _ _ _ _ KM K0 (hr.mono (by decide)) ((¬0)∘((¬2)∘ac)) (by rfl) (by decide) (by rfl) (by rfl)))
        (fun C s0 H0 fp=>(@aJ _ _ _ 2 _ (show OI (["web","stand","thing"]:List Str) by decide+kernel) rfl (Or.inl rfl) (by trivial))) (fun C s0 H0 fp=>(@nL _ _))
        (fun C s0 H0 fp=>(@bA _ _ _ _ _ _ _ _ _ _ _ _ _ _ _ KN Lp (hr.mono (by decide)) ((¬0)∘((¬1)∘((¬2)∘ac))) (by rfl) (by decide) (by rfl) (by rfl))) rfl (by rfl) (by intro _;rfl))∘ac) (by decide) (by decide) (by rfl) (by rfl)))))))
noncomputable def fK:FS:=(aO (lD (ab 1) (bZ (aB (aj 4) (aB (aj 5) bM))))
    (aO (i4 (az (ab 3))
    (bi 5 (aF (g1 dF) (aa (aF (g1 ed) (aa (ay cw (ab 5) (dr 2 bP (aa (ab 0) (aa (ab 2) ah)))) ah)) ah)))
    cL)
    (bg (cz (aa (aF (g1 dF) (aa (aF (g1 ed) (aa (ay cw (ab 4) (cz (aa (ab 2) ah))) ah)) ah)) (aa (ab 5) ah))))))
noncomputable def bF:FM:=ix 4 2 (([4]++([5]++[]))++(([5]++[])++[])) fK
theorem ja:au ["web","stand","tie","truth","asked","taken"] ["web","stand","tie","truth"] (ag cH):=⟨rfl,rfl,rfl,by decide+kernel,rfl,by decide+kernel,by decide+kernel⟩
theorem nj(h:dA K mg "stand_behind" cH f fd ["web","stand","tie","truth"])(T:cf mg)(z_things_of:Cl P w K mg base "things_of" cI ["web","tie"] 1 2 bP):aG P w K mg base cc 2 f fd ["web","stand","tie","truth"] (dw K 4 bF):=by
  obtain⟨Ls,Lu,KM,K0⟩:=z_things_of
  have nd:=ja.nd
  exact h.fn ja rfl rfl (fun cdv A outer s H E hr=>(@af _ _ _ _ _ _ _ _ (@ph _ _ _ _ _ _ _ _ (¬1) (@gS _ _ _ _ _ _ _ _ rfl rfl (@bc _ _ _ _ _ _ _ _ (@aJ _ _ _ 4 _ nd rfl (Or.inl rfl) (by trivial)) (@bc _ _ _ _ _ _ _ _ (@aJ _ _ _ 5 _ nd rfl (Or.inl rfl) (by trivial)) (@eD _ _) (by rfl)) (by rfl)) (bu (bu gQ)) (by rfl) (by rfl)) (by rfl) (by rfl) (by rfl))
      (@af _ _ _ _ _ _ _ _ (@cu _ _ _ _ _ _ _ _ _ _ _ (@gn _ _ _ _ (¬3) (by intro _;rfl))
      (@am _ _ _ _ _ (@aM _ _ _ _ _ 5 _ _ nd rfl (Or.inl rfl) (@aV _ _ _ _ _ _ _ _ _ (@b_tuple _ _ rfl) (by rfl) T.b_tuple ((@aV _ _ _ _ _ _ _ _ _ (@b_sorted _ _ rfl) (by rfl) T.b_sorted ((@cP _ _ _ _ _ _ _ rfl (¬5) (@bA _ _ _ _ _ _ _ _ _ _ _ _ _ _ _ KM K0 (hr.mono (by decide)) ((¬0)∘((¬2)∘ac)) (by rfl) (by decide) (by rfl) (by rfl)))∘ac) (by decide) (by decide) (by rfl) (by rfl))∘ac) (by decide) (by decide) (by rfl) (by rfl)) (by rfl) (by trivial)))
      (@aZ _ _))
      (@am _ _ _ _ _ (@aw _ _ _ _ _ (@bj _ _ _ _ _ _ ((@aV _ _ _ _ _ _ _ _ _ (@b_tuple _ _ rfl) (by rfl) T.b_tuple ((@aV _ _ _ _ _ _ _ _ _ (@b_sorted _ _ rfl) (by rfl) T.b_sorted ((@cP _ _ _ _ _ _ _ rfl (¬4) (@bj _ _ _ _ _ _ ((¬2)∘ac)))∘ac) (by decide) (by decide) (by rfl) (by rfl))∘ac) (by decide) (by decide) (by rfl) (by rfl))∘((¬5)∘ac))))))))
noncomputable def mx:FS:=(aO (i4 (uQ (ml (az (uS sd (ab 0)))) (az (ay Dg (aF (g1 lW) (aa (ab 0) ah)) (vC (.int (4))))))
    (bg (vC .none))
    cL)
    (aO (bi 1 (aF (g1 iP) (aa (ab 0) ah)))
    (bg (yi (az (ay (bh false) (aF (g1 gC) (aa (ab 1) ah)) (ab 0))) (ab 1) (vC .none)))))
noncomputable def eO:FM:=ix 1 1 (([]++[])++([1]++[])) mx
theorem lK:au ["word","number"] ["word"] (ag eT):=⟨rfl,rfl,rfl,by decide+kernel,rfl,by decide+kernel,by decide+kernel⟩
theorem sx(h:dA K mg "number_of" eT f fd ["word"])(T:cf mg){t_MOST_FIGURES:Tok}(m_MOST_FIGURES:mg "MOST_FIGURES"=some (.int (4) t_MOST_FIGURES)):aG P w K mg base cc 1 f fd ["word"] (dw K 1 eO):=by
  have nd:=lK.nd
  exact h.fn lK rfl rfl (fun cdv A outer s H E hr=>(@af _ _ _ _ _ _ _ _ (@cu _ _ _ _ _ _ _ _ _ _ _ (@qf _ _ _ _ (@pj _ _ _ _ _ _ _ _ (@vL _ _ _ _ _ (@gn _ _ _ _ (@Hn _ _ _ _ _ _ (¬0) (by rfl) (by rfl)) (by intro _;rfl))) (@ko _ _ _ _ _ (@aN _ _ _ _ _ _ _ _ _ (@yy _ _) (@aV _ _ _ _ _ _ _ _ _ (@Bl _ _) (by rfl) T.b_len ((¬0)∘ac) (by decide) (by decide) (by rfl) (by rfl)) (@wK _ _ _ (V.int (4)) _ _ (PyData.int (4)) rfl m_MOST_FIGURES ⟨_,rfl⟩ (fun _=>bS.mpr rfl) (by decide)) (aE _)))))
      (@am _ _ _ _ _ (@aw _ _ _ _ _ (@eX _ _ _ _)))
      (@aZ _ _))
      (@af _ _ _ _ _ _ _ _ (@aM _ _ _ _ _ 1 _ _ nd rfl (Or.inl rfl) (@aV _ _ _ _ _ _ _ _ _ (@we _ _) (by rfl) T.b_int ((¬0)∘ac) (by decide) (by decide) (by rfl) (by rfl)) (by rfl) (by trivial))
      (@am _ _ _ _ _ (@aw _ _ _ _ _ (@lC _ _ _ _ _ _ _ _ _ (@aN _ _ _ _ _ _ _ _ _ (@gz _ _ _ rfl hr) (@aV _ _ _ _ _ _ _ _ _ (@b_str _ _) (by rfl) T.b_str ((¬1)∘ac) (by decide) (by decide) (by rfl) (by rfl)) (¬0) (aE _)) (¬1) (@eX _ _ _ _)))))))
noncomputable def k9:FI:=(jX (ab 0))
noncomputable def kX:FE:=(aF (g1 gC) (aa (ab 0) ah))
noncomputable def n9:FS:=(bg (ay mE (vC (.str (" ":Str))) (b_ [] 1 k9 (aj 0) jc kX)))
noncomputable def di:FM:=ix 1 0 [] n9
theorem mR:au ["row"] ["row"] (ag er):=⟨rfl,rfl,rfl,by decide+kernel,rfl,by decide+kernel,by decide+kernel⟩
theorem ul(h:dA K mg "row_line" er f fd ["row"])(T:cf mg):aG P w K mg base cc 1 f fd ["row"] (dw K 1 di):=by
  have nd:=mR.nd
  exact h.fn mR rfl rfl (fun cdv A outer s H E hr=>(@am _ _ _ _ _ (@aw _ _ _ _ _ (@z5 _ _ _ _ _ _ _ _ _ rfl (@dJ _ _ _ _ _ _ _ _ _ _ _ _ _ [] ["part"] rfl rfl (@eY _ _ _ _ _ rfl (¬0))
        (fun C s0 H0 fp=>(@aJ _ _ _ 0 _ (show OI (["part"]:List Str) by decide+kernel) rfl (Or.inl rfl) (by trivial))) (fun C s0 H0 fp=>(@nL _ _))
        (fun C s0 H0 fp=>(@aV _ _ _ _ _ _ _ _ _ (@b_str _ _) (by rfl) T.b_str ((¬0)∘ac) (by decide) (by decide) (by rfl) (by rfl))) rfl (by rfl) (by intro _;rfl)) (by rfl) (by rfl) (by rfl) (by rfl) (by rfl)))))
noncomputable def mG:FI:=(jX (ab 0))
noncomputable def jo:FT:=(az (ab 1))
noncomputable def jr:FE:=(ab 0)
noncomputable def qm:FS:=(bg (aF (g1 dF) (aa (b_ [] 2 mG (bZ (aB (aj 0) (aB (aj 1) bM))) jo jr) ah)))
noncomputable def ek:FM:=ix 1 0 [] qm
theorem pJ:au ["run"] ["run"] (ag fF):=⟨rfl,rfl,rfl,by decide+kernel,rfl,by decide+kernel,by decide+kernel⟩
theorem vD(h:dA K mg "kept_of" fF f fd ["run"])(T:cf mg):aG P w K mg base cc 1 f fd ["run"] (dw K 1 ek):=by
  have nd:=pJ.nd
  exact h.fn pJ rfl rfl (fun cdv A outer s H E hr=>(@am _ _ _ _ _ (@aw _ _ _ _ _ (@aV _ _ _ _ _ _ _ _ _ (@b_tuple _ _ rfl) (by rfl) T.b_tuple ((@dJ _ _ _ _ _ _ _ _ _ _ _ _ _ [] ["tie","truth"] rfl rfl (@eY _ _ _ _ _ rfl (¬0))
        (fun C s0 H0 fp=>(@gS _ _ _ _ _ _ _ _ rfl rfl (@bc _ _ _ _ _ _ _ _ (@aJ _ _ _ 0 _ (show OI (["tie","truth"]:List Str) by decide+kernel) rfl (Or.inl rfl) (by trivial)) (@bc _ _ _ _ _ _ _ _ (@aJ _ _ _ 1 _ (show OI (["tie","truth"]:List Str) by decide+kernel) rfl (Or.inl rfl) (by trivial)) (@eD _ _) (by rfl)) (by rfl)) (bu (bu gQ)) (by rfl) (by rfl))) (fun C s0 H0 fp=>(@iZ _ _ _ _ (@gn _ _ _ _ (¬1) (by intro _;rfl))))
        (fun C s0 H0 fp=>(¬0)) rfl (by rfl) (by intro _;rfl))∘ac) (by decide) (by decide) (by rfl) (by rfl)))))
noncomputable def jw:FI:=(jX (dr 1 ek (aa (ab 1) ah)))
noncomputable def dD:FE:=(ay du (ay du (ay du (ab 0) (vC (.int 1))) (ab 1)) (vC (.int 3)))
noncomputable def kO:FS:=(bg (aF (g1 (hE qB)) (aa (b_ [(0,"web")] 1 jw (aj 1) jc dD) ah)))
noncomputable def dH:FM:=ix 2 0 [] kO
theorem j2:au ["web","run"] ["web","run"] (ag dP):=⟨rfl,rfl,rfl,by decide+kernel,rfl,by decide+kernel,by decide+kernel⟩
theorem qe(h:dA K mg "worth_kept" dP f fd ["web","run"])(T:cf mg)(z_kept_of:Cl P w K mg base "kept_of" fF ["run"] 1 1 ek):aG P w K mg base cc 2 f fd ["web","run"] (dw K 2 dH):=by
  obtain⟨L4,L5,K6,Lv⟩:=z_kept_of
  have nd:=j2.nd
  exact h.fn j2 rfl rfl (fun cdv A outer s H E hr=>(@am _ _ _ _ _ (@aw _ _ _ _ _ (@aV _ _ _ _ _ _ _ _ _ (@b_sum _ _ _ rfl hr) (by rfl) T.b_sum ((@dJ _ _ _ _ _ _ _ _ _ _ _ _ _ [(0,"web")] ["tie"] rfl rfl (@eY _ _ _ _ _ rfl (@bA _ _ _ _ _ _ _ _ _ _ _ _ _ _ _ K6 Lv (hr.mono (by decide)) ((¬1)∘ac) (by rfl) (by decide) (by rfl) (by rfl)))
        (fun C s0 H0 fp=>(@aJ _ _ _ 1 _ (show OI (["web","tie"]:List Str) by decide+kernel) rfl (Or.inl rfl) (by trivial))) (fun C s0 H0 fp=>(@nL _ _))
        (fun C s0 H0 fp=>(@ck _ _ _ _ _ _ _ rfl (@ck _ _ _ _ _ _ _ rfl (@ck _ _ _ _ _ _ _ rfl (¬0) ae (fun _ _=>rfl)) (¬1) (fun _ _=>rfl)) ae (fun _ _=>rfl))) rfl (by rfl) (by intro _;rfl))∘ac) (by decide) (by decide) (by rfl) (by rfl)))))
noncomputable def tV:FI:=(cZ (aa (aF (g1 gB) (aa (ay du (ab 0) (vC (.int 1))) ah)) ah))
noncomputable def tD:FT:=(az (dr 3 cK (aa (ab 0) (aa (ab 1) (aa (ab 2) ah)))))
noncomputable def tO:FE:=(ab 2)
noncomputable def xm:FS:=(bg (b_ [(0,"web"),(1,"stand")] 1 tV (aj 2) tD tO))
noncomputable def l8:FM:=ix 2 0 [] xm
theorem pI:au ["web","stand"] ["web","stand"] (ag ig):=⟨rfl,rfl,rfl,by decide+kernel,rfl,by decide+kernel,by decide+kernel⟩
theorem vB(h:dA K mg "asks_at" ig f fd ["web","stand"])(T:cf mg)(z_may_ask:Cl P w K mg base "may_ask" fH ["web","stand","tie"] 4 3 cK):aG P w K mg base cc 5 f fd ["web","stand"] (dw K 2 l8):=by
  obtain⟨Lw,Lx,K1,K7⟩:=z_may_ask
  have nd:=pI.nd
  exact h.fn pI rfl rfl (fun cdv A outer s H E hr=>(@am _ _ _ _ _ (@aw _ _ _ _ _ (@dJ _ _ _ _ _ _ _ _ _ _ _ _ _ [(0,"web"),(1,"stand")] ["tie"] rfl rfl (@dq _ _ _ _ _ _ _ rfl T.b_range ((@aV _ _ _ _ _ _ _ _ _ (@b_len _ _ rfl) (by rfl) T.b_len ((@ck _ _ _ _ _ _ _ rfl (¬0) ae (fun _ _=>rfl))∘ac) (by decide) (by decide) (by rfl) (by rfl))∘ac) (by rfl))
        (fun C s0 H0 fp=>(@aJ _ _ _ 2 _ (show OI (["web","stand","tie"]:List Str) by decide+kernel) rfl (Or.inl rfl) (by trivial))) (fun C s0 H0 fp=>(@iZ _ _ _ _ (@gn _ _ _ _ (@bA _ _ _ _ _ _ _ _ _ _ _ _ _ _ _ K1 K7 (hr.mono (by decide)) ((¬0)∘((¬1)∘((¬2)∘ac))) (by rfl) (by decide) (by rfl) (by rfl)) (by intro _;rfl))))
        (fun C s0 H0 fp=>(¬2)) rfl (by rfl) (by intro _;rfl)))))
noncomputable def hR:FI:=(jX (ab 1))
noncomputable def gZ:FS:=(bi 2 (dr 4 bF (aa (ab 0) (aa (ab 2) (aa (ab 3) (aa (ab 4) ah))))))
noncomputable def jm:FS:=(aO (bi 2 (vC (.tuple [.tuple [],.tuple []])))
    (aO (gT (([3]++([4]++[]))++[2]) hR (bZ (aB (aj 3) (aB (aj 4) bM))) gZ)
    (bg (ab 2))))
noncomputable def bG:FM:=ix 2 3 ([2]++((([3]++([4]++[]))++[2])++[])) jm
theorem jb:au ["web","run","stand","tie","truth"] ["web","run"] (ag b7):=⟨rfl,rfl,rfl,by decide+kernel,rfl,by decide+kernel,by decide+kernel⟩
theorem nu(h:dA K mg "stand_of_run" b7 f fd ["web","run"])(T:cf mg)(z_stand_behind:Cl P w K mg base "stand_behind" cH ["web","stand","tie","truth"] 2 4 bF){g_FIRST_STAND:xM}(m_FIRST_STAND:mg "FIRST_STAND"=some (.ref g_FIRST_STAND))(c_FIRST_STAND:∀F,DA K F (.tuple [.tuple [],.tuple []]) (.ref g_FIRST_STAND)):aG P w K mg base cc 3 f fd ["web","run"] (dw K 2 bG):=by
  obtain⟨Mc,Md,KQ,LB⟩:=z_stand_behind
  have nd:=jb.nd
  exact h.fn jb rfl rfl (fun cdv A outer s H E hr=>(@af _ _ _ _ _ _ _ _ (@aM _ _ _ _ _ 2 _ _ nd rfl (Or.inl rfl) (@wK _ _ _ (V.ref g_FIRST_STAND) _ _ (PyData.tuple [.tuple [],.tuple []]) rfl m_FIRST_STAND rfl c_FIRST_STAND (by decide)) (by rfl) (by trivial))
      (@af _ _ _ _ _ _ _ _ (@kn _ _ _ _ _ _ _ _ _ _ _ OY rfl (@eY _ _ _ _ _ rfl (¬1)) (@gS _ _ _ _ _ _ _ _ rfl rfl (@bc _ _ _ _ _ _ _ _ (@aJ _ _ _ 3 _ nd rfl (Or.inl rfl) (by trivial)) (@bc _ _ _ _ _ _ _ _ (@aJ _ _ _ 4 _ nd rfl (Or.inl rfl) (by trivial)) (@eD _ _) (by rfl)) (by rfl)) (bu (bu gQ)) (by rfl) (by rfl))
      (@am _ _ _ _ _ (@aM _ _ _ _ _ 2 _ _ nd rfl (Or.inl rfl) (@bA _ _ _ _ _ _ _ _ _ _ _ _ _ _ _ KQ LB (hr.mono (by decide)) ((¬0)∘((¬2)∘((¬3)∘((¬4)∘ac)))) (by rfl) (by decide) (by rfl) (by rfl)) (by rfl) (by trivial))) (by intro _;rfl))
      (@am _ _ _ _ _ (@aw _ _ _ _ _ (¬2))))))
noncomputable def u7:FS:=(aO (bi 2 (dr 2 l8 (aa (ab 0) (aa (dr 2 bG (aa (ab 0) (aa (ab 1) ah))) ah))))
    (bg (yi (az (ay Dg (aF (g1 gB) (aa (ab 2) ah)) (vC (.int 0)))) (dr 1 di (aa (ab 2) ah)) (vC (.str ("none":Str))))))
noncomputable def kh:FM:=ix 2 1 ([2]++[]) u7
theorem mP:au ["web","run","ties"] ["web","run"] (ag gu):=⟨rfl,rfl,rfl,by decide+kernel,rfl,by decide+kernel,by decide+kernel⟩
theorem uk(h:dA K mg "may_line" gu f fd ["web","run"])(T:cf mg)(z_asks_at:Cl P w K mg base "asks_at" ig ["web","stand"] 5 2 l8)(z_stand_of_run:Cl P w K mg base "stand_of_run" b7 ["web","run"] 3 2 bG)(z_row_line:Cl P w K mg base "row_line" er ["row"] 1 1 di):aG P w K mg base cc 6 f fd ["web","run"] (dw K 2 kh):=by
  obtain⟨MC,MD,Lh,L6⟩:=z_asks_at
  obtain⟨K4,K5,KJ,KL⟩:=z_stand_of_run
  obtain⟨LY,LZ,KW,Ll⟩:=z_row_line
  have nd:=mP.nd
  exact h.fn mP rfl rfl (fun cdv A outer s H E hr=>(@af _ _ _ _ _ _ _ _ (@aM _ _ _ _ _ 2 _ _ nd rfl (Or.inl rfl) (@bA _ _ _ _ _ _ _ _ _ _ _ _ _ _ _ Lh L6 (hr.mono (by decide)) ((¬0)∘((@bA _ _ _ _ _ _ _ _ _ _ _ _ _ _ _ KJ KL (hr.mono (by decide)) ((¬0)∘((¬1)∘ac)) (by rfl) (by decide) (by rfl) (by rfl))∘ac)) (by rfl) (by decide) (by rfl) (by rfl)) (by rfl) (by trivial))
      (@am _ _ _ _ _ (@aw _ _ _ _ _ (@lC _ _ _ _ _ _ _ _ _ (@aN _ _ _ _ _ _ _ _ _ (@yy _ _) (@aV _ _ _ _ _ _ _ _ _ (@b_len _ _ rfl) (by rfl) T.b_len ((¬2)∘ac) (by decide) (by decide) (by rfl) (by rfl)) ae (aE _)) (@bA _ _ _ _ _ _ _ _ _ _ _ _ _ _ _ KW Ll (hr.mono (by decide)) ((¬2)∘ac) (by rfl) (by decide) (by rfl) (by rfl)) (@aI _ _ _ _ _))))))
noncomputable def jl:FS:=(aO (bi 2 (dr 1 ek (aa (ab 1) ah)))
    (bg (dr 1 di (aa (ay cw (yi (az (ay Dg (aF (g1 gB) (aa (ab 2) ah)) (vC (.int 0)))) (ab 2) (cz (aa (vC (.str ("none":Str))) ah))) (cz (aa (dr 2 dH (aa (ab 0) (aa (ab 1) ah))) ah))) ah))))
noncomputable def cD:FM:=ix 2 1 ([2]++[]) jl
theorem lI:au ["web","run","kept"] ["web","run"] (ag eR):=⟨rfl,rfl,rfl,by decide+kernel,rfl,by decide+kernel,by decide+kernel⟩
theorem su(h:dA K mg "kept_line" eR f fd ["web","run"])(T:cf mg)(z_kept_of:Cl P w K mg base "kept_of" fF ["run"] 1 1 ek)(z_row_line:Cl P w K mg base "row_line" er ["row"] 1 1 di)(z_worth_kept:Cl P w K mg base "worth_kept" dP ["web","run"] 2 2 dH):aG P w K mg base cc 3 f fd ["web","run"] (dw K 2 cD):=by
  obtain⟨L4,L5,K6,Lv⟩:=z_kept_of
  obtain⟨LY,LZ,KW,Ll⟩:=z_row_line
  obtain⟨Ml,Mm,K2,LL⟩:=z_worth_kept
  have nd:=lI.nd
  exact h.fn lI rfl rfl (fun cdv A outer s H E hr=>(@af _ _ _ _ _ _ _ _ (@aM _ _ _ _ _ 2 _ _ nd rfl (Or.inl rfl) (@bA _ _ _ _ _ _ _ _ _ _ _ _ _ _ _ K6 Lv (hr.mono (by decide)) ((¬1)∘ac) (by rfl) (by decide) (by rfl) (by rfl)) (by rfl) (by trivial))
      (@am _ _ _ _ _ (@aw _ _ _ _ _ (@bA _ _ _ _ _ _ _ _ _ _ _ _ _ _ _ KW Ll (hr.mono (by decide)) ((@cP _ _ _ _ _ _ _ rfl (@lC _ _ _ _ _ _ _ _ _ (@aN _ _ _ _ _ _ _ _ _ (@yy _ _) (@aV _ _ _ _ _ _ _ _ _ (@b_len _ _ rfl) (by rfl) T.b_len ((¬2)∘ac) (by decide) (by decide) (by rfl) (by rfl)) ae (aE _)) (¬2) (@bj _ _ _ _ _ _ ((@aI _ _ _ _ _)∘ac))) (@bj _ _ _ _ _ _ ((@bA _ _ _ _ _ _ _ _ _ _ _ _ _ _ _ K2 LL (hr.mono (by decide)) ((¬0)∘((¬1)∘ac)) (by rfl) (by decide) (by rfl) (by rfl))∘ac)))∘ac) (by rfl) (by decide) (by rfl) (by rfl))))))
noncomputable def kN:FS:=(aO (bi 2 (ay jy (ab 1) (vC (.str (" ":Str)))))
    (aO (i4 (uQ (az (ay (bh true) (aF (g1 gB) (aa (ab 2) ah)) (vC (.int 2)))) (az (ay (bh true) (ay du (ab 2) (vC (.int 0))) (vC (.str ("ask":Str))))))
    (bg (vC .none))
    cL)
    (aO (bi 3 (dr 1 eO (aa (ay du (ab 2) (vC (.int 1))) ah)))
    (bg (yi (mj (az (ay kb (ab 3) (vC .none))) (az (ay Di (ab 3) (aF (g1 gB) (aa (ay du (ab 0) (vC (.int 1))) ah))))) (ab 3) (vC .none))))))
noncomputable def dG:FM:=ix 2 2 ([2]++(([]++[])++([3]++[]))) kN
theorem j1:au ["web","line","words","tie"] ["web","line"] (ag dO):=⟨rfl,rfl,rfl,by decide+kernel,rfl,by decide+kernel,by decide+kernel⟩
theorem qd(h:dA K mg "tie_to_ask" dO f fd ["web","line"])(T:cf mg)(z_number_of:Cl P w K mg base "number_of" eT ["word"] 1 1 eO):aG P w K mg base cc 2 f fd ["web","line"] (dw K 2 dG):=by
  obtain⟨Mx,My,K',LS⟩:=z_number_of
  have nd:=j1.nd
  exact h.fn j1 rfl rfl (fun cdv A outer s H E hr=>(@af _ _ _ _ _ _ _ _ (@aM _ _ _ _ _ 2 _ _ nd rfl (Or.inl rfl) (@Cy _ _ _ _ _ _ _ _ (¬1) (@aI _ _ _ _ _) (by rfl) (by rfl) (by rfl) (by rfl) (by rfl)) (by rfl) (by trivial))
      (@af _ _ _ _ _ _ _ _ (@cu _ _ _ _ _ _ _ _ _ _ _ (@qf _ _ _ _ (@pj _ _ _ _ _ _ _ _ (@aN _ _ _ _ _ _ _ _ _ (@yz _ _ _ rfl hr) (@aV _ _ _ _ _ _ _ _ _ (@b_len _ _ rfl) (by rfl) T.b_len ((¬2)∘ac) (by decide) (by decide) (by rfl) (by rfl)) ae (aE _)) (@ko _ _ _ _ _ (@aN _ _ _ _ _ _ _ _ _ (@yz _ _ _ rfl hr) (@ck _ _ _ _ _ _ _ rfl (¬2) ae (fun _ _=>rfl)) (@aI _ _ _ _ _) (aE _)))))
      (@am _ _ _ _ _ (@aw _ _ _ _ _ (@eX _ _ _ _)))
      (@aZ _ _))
      (@af _ _ _ _ _ _ _ _ (@aM _ _ _ _ _ 3 _ _ nd rfl (Or.inl rfl) (@bA _ _ _ _ _ _ _ _ _ _ _ _ _ _ _ K' LS (hr.mono (by decide)) ((@ck _ _ _ _ _ _ _ rfl (¬2) ae (fun _ _=>rfl))∘ac) (by rfl) (by decide) (by rfl) (by rfl)) (by rfl) (by trivial))
      (@am _ _ _ _ _ (@aw _ _ _ _ _ (@lC _ _ _ _ _ _ _ _ _ (@qf _ _ _ _ (@vM _ _ _ _ _ _ _ _ (@aN _ _ _ _ _ _ _ _ _ (@rB _ _) (¬3) (@eX _ _ _ _) (aE _)) (@sL _ _ _ _ _ (@aN _ _ _ _ _ _ _ _ _ (@Bm _ _) (¬3) (@aV _ _ _ _ _ _ _ _ _ (@b_len _ _ rfl) (by rfl) T.b_len ((@ck _ _ _ _ _ _ _ rfl (¬0) ae (fun _ _=>rfl))∘ac) (by decide) (by decide) (by rfl) (by rfl)) (aE _))))) (¬3) (@eX _ _ _ _))))))))
noncomputable def wa:FS:=(aO (bi 2 (ay bv (ay cw (ay cw (ay oI (ay bv (ab 0) (vC (.int 2147483647))) (vC (.int 48271))) (ay oI (ay oI (vC (.int 7919)) (ab 1)) (ab 1))) (vC (.int 104729))) (vC (.int 2147483647))))
    (bg (ay bv (ay oI (ab 2) (ab 2)) (vC (.int 2147483629)))))
noncomputable def jQ:FM:=ix 2 1 ([2]++[]) wa
theorem uC:au ["_law_cell","_law_k","_law_number"] ["_law_cell","_law_k"] (ag lF):=⟨rfl,rfl,rfl,by decide+kernel,rfl,by decide+kernel,by decide+kernel⟩
theorem zD(h:dA K mg "_law_mixed" lF f fd ["_law_cell","_law_k"])(T:cf mg):aG P w K mg base cc 1 f fd ["_law_cell","_law_k"] (dw K 2 jQ):=by
  have nd:=uC.nd
  exact h.fn uC rfl rfl (fun cdv A outer s H E hr=>(@af _ _ _ _ _ _ _ _ (@aM _ _ _ _ _ 2 _ _ nd rfl (Or.inl rfl) (@bo _ _ _ _ _ _ _ (@cP _ _ _ _ _ _ _ rfl (@cP _ _ _ _ _ _ _ rfl (@qO _ _ _ _ _ _ _ rfl (@bo _ _ _ _ _ _ _ (¬0) ae) ae) (@qO _ _ _ _ _ _ _ rfl (@qO _ _ _ _ _ _ _ rfl ae (¬1)) (¬1))) ae) ae) (by rfl) (by trivial))
      (@am _ _ _ _ _ (@aw _ _ _ _ _ (@bo _ _ _ _ _ _ _ (@qO _ _ _ _ _ _ _ rfl (¬2) (¬2)) ae)))))
noncomputable def fx:FT:=(mj (az (ay Df (ab 3) (ay vf (vC (.int 10)) (vC (.int 18))))) (az (ay Di (aF (g1 gB) (aa (ab 1) ah)) (vC (.int 900)))))
noncomputable def jI:FS:=(aO (eP (cg bO (ab 1) (aa (ay bv (ab 3) (vC (.int 2147483629))) ah)))
    (bi 3 (ay fP (ab 3) (vC (.int 2147483629)))))
noncomputable def jL:FI:=(cZ (aa (vC (.int 12)) ah))
noncomputable def gX:FS:=(eP (cg bO (ab 1) (aa (dr 2 jQ (aa (dr 2 jQ (aa (ab 3) (aa (ay cw (ay oI (vC (.int 3)) (ab 4)) (vC (.int 1))) ah))) (aa (ay cw (ay cw (ab 4) (ab 2)) (vC (.int 2))) ah))) ah)))
noncomputable def lZ:FI:=(cZ (aa (aF (g2 yQ) (aa (aF (g1 gB) (aa (ab 0) ah)) (aa (vC (.int 63)) ah))) ah))
noncomputable def fm:FS:=(aO (bi 3 (aF (g1 xB) (aa (ay du (ab 0) (ab 2)) ah)))
    (aO (i4 (az (ay Di (ab 3) (ay vf (vC (.int 10)) (vC (.int 18)))))
    (gT ([4]++[]) jL (aj 4) gX)
    cL)
    (aO (pE (2 ^ 4200) fx jI)
    (i4 (az (ay Df (ab 3) (vC (.int 2147483629))))
    (eP (cg bO (ab 1) (aa (ay bv (ab 3) (vC (.int 2147483629))) ah)))
    cL))))
noncomputable def v_:FS:=(aO (bi 1 (eU ah))
    (aO (gT ([2]++([3]++((([4]++[])++[])++(([]++[3])++([]++[]))))) lZ (aj 2) fm)
    (bg (ab 1))))
noncomputable def jP:FM:=ix 1 4 ([1]++(([2]++([3]++((([4]++[])++[])++(([]++[3])++([]++[])))))++[])) v_
theorem uB:au ["_law_script","_law_drawn","_law_k","_law_cell","_law_j"] ["_law_script"] (ag lE):=⟨rfl,rfl,rfl,by decide+kernel,rfl,by decide+kernel,by decide+kernel⟩
theorem zC(h:dA K mg "_law_draws" lE f fd ["_law_script"])(T:cf mg)(zLmixed:Cl P w K mg base "_law_mixed" lF ["_law_cell","_law_k"] 1 2 jQ):aG P w K mg base cc 2 f fd ["_law_script"] (dw K 1 jP):=by
  obtain⟨MS,MT,Ly,L7⟩:=zLmixed
  have nd:=uB.nd
  exact h.fn uB rfl rfl (fun cdv A outer s H E hr=>(@af _ _ _ _ _ _ _ _ (@aM _ _ _ _ _ 1 _ _ nd rfl (Or.inl rfl) (@cF _ _ _ _ _ ac) (by rfl) (by trivial))
      (@af _ _ _ _ _ _ _ _ (@kn _ _ _ _ _ _ _ _ _ _ _ OY rfl (@dq _ _ _ _ _ _ _ rfl T.b_range ((@aV _ _ _ _ _ _ _ _ _ (@b_min _ _ rfl) (by rfl) T.b_min ((@aV _ _ _ _ _ _ _ _ _ (@b_len _ _ rfl) (by rfl) T.b_len ((¬0)∘ac) (by decide) (by decide) (by rfl) (by rfl))∘(ae∘ac)) (by decide) (by decide) (by rfl) (by rfl))∘ac) (by rfl)) (@aJ _ _ _ 2 _ nd rfl (Or.inl rfl) (by trivial))
      (@af _ _ _ _ _ _ _ _ (@aM _ _ _ _ _ 3 _ _ nd rfl (Or.inl rfl) (@aV _ _ _ _ _ _ _ _ _ (@b_abs _ _) (by rfl) T.b_abs ((@ck _ _ _ _ _ _ _ rfl (¬0) (¬2) (fun _ _=>rfl))∘ac) (by decide) (by decide) (by rfl) (by rfl)) (by rfl) (by trivial))
      (@af _ _ _ _ _ _ _ _ (@cu _ _ _ _ _ _ _ _ _ _ _ (@aN _ _ _ _ _ _ _ _ _ (@Bm _ _) (¬3) (@Dy _ _ _ _ _ _ _ ae ae) (aE _))
      (@am _ _ _ _ _ (@kn _ _ _ _ _ _ _ _ _ _ _ OY rfl (@dq _ _ _ _ _ _ _ rfl T.b_range (ae∘ac) (by rfl)) (@aJ _ _ _ 4 _ nd rfl (Or.inl rfl) (by trivial))
      (@am _ _ _ _ _ (@fj _ _ _ _ _ (@gj _ _ _ _ _ _ _ _ _ rfl (¬1) ((@bA _ _ _ _ _ _ _ _ _ _ _ _ _ _ _ Ly L7 (hr.mono (by decide)) ((@bA _ _ _ _ _ _ _ _ _ _ _ _ _ _ _ Ly L7 (hr.mono (by decide)) ((¬3)∘((@cP _ _ _ _ _ _ _ rfl (@qO _ _ _ _ _ _ _ rfl ae (¬4)) ae)∘ac)) (by rfl) (by decide) (by rfl) (by rfl))∘((@cP _ _ _ _ _ _ _ rfl (@cP _ _ _ _ _ _ _ rfl (¬4) (¬2)) ae)∘ac)) (by rfl) (by decide) (by rfl) (by rfl))∘ac) (by rfl) (by rfl) (by rfl) (by rfl) (by rfl)) (by rfl))) (by intro _;rfl)))
      (@aZ _ _))
      (@af _ _ _ _ _ _ _ _ (@ut _ _ _ _ _ _ _ _ _ OY (@qf _ _ _ _ (@vM _ _ _ _ _ _ _ _ (@aN _ _ _ _ _ _ _ _ _ (@yx _ _) (¬3) (@Dy _ _ _ _ _ _ _ ae ae) (aE _)) (@sL _ _ _ _ _ (@aN _ _ _ _ _ _ _ _ _ (@Bm _ _) (@aV _ _ _ _ _ _ _ _ _ (@b_len _ _ rfl) (by rfl) T.b_len ((¬1)∘ac) (by decide) (by decide) (by rfl) (by rfl)) ae (aE _)))))
      (@af _ _ _ _ _ _ _ _ (@fj _ _ _ _ _ (@gj _ _ _ _ _ _ _ _ _ rfl (¬1) ((@bo _ _ _ _ _ _ _ (¬3) ae)∘ac) (by rfl) (by rfl) (by rfl) (by rfl) (by rfl)) (by rfl))
      (@am _ _ _ _ _ (@aM _ _ _ _ _ 3 _ _ nd rfl (Or.inl rfl) (@jB _ _ _ _ _ _ _ (¬3) ae) (by rfl) (by trivial)))))
      (@am _ _ _ _ _ (@cu _ _ _ _ _ _ _ _ _ _ _ (@aN _ _ _ _ _ _ _ _ _ (@yx _ _) (¬3) ae (aE _))
      (@am _ _ _ _ _ (@fj _ _ _ _ _ (@gj _ _ _ _ _ _ _ _ _ rfl (¬1) ((@bo _ _ _ _ _ _ _ (¬3) ae)∘ac) (by rfl) (by rfl) (by rfl) (by rfl) (by rfl)) (by rfl)))
      (@aZ _ _)))))) (by intro _;rfl))
      (@am _ _ _ _ _ (@aw _ _ _ _ _ (¬1))))))
noncomputable def uZ:FS:=(aO (i4 (az (ay (bh false) (ab 0) (eU ah)))
    (bg (vC (.int 0)))
    cL)
    (bg (cg gc (ab 0) (aa (vC (.int 0)) ah))))
noncomputable def bL:FM:=ix 1 0 (([]++[])++[]) uZ
theorem wW:au ["_law_drawn"] ["_law_drawn"] (ag ku):=⟨rfl,rfl,rfl,by decide+kernel,rfl,by decide+kernel,by decide+kernel⟩
theorem B0(h:dA K mg "_law_next" ku f fd ["_law_drawn"])(T:cf mg):aG P w K mg base cc 1 f fd ["_law_drawn"] (dw K 1 bL):=by
  have nd:=wW.nd
  exact h.fn wW rfl rfl (fun cdv A outer s H E hr=>(@af _ _ _ _ _ _ _ _ (@cu _ _ _ _ _ _ _ _ _ _ _ (@aN _ _ _ _ _ _ _ _ _ (@gz _ _ _ rfl hr) (¬0) (@cF _ _ _ _ _ ac) (aE _))
      (@am _ _ _ _ _ (@aw _ _ _ _ _ ae))
      (@aZ _ _))
      (@am _ _ _ _ _ (@aw _ _ _ _ _ (@Cw _ _ _ _ _ _ _ _ _ rfl (¬0) (ae∘ac) (by rfl) (by rfl) (by rfl) (by rfl) (by rfl))))))
noncomputable def kR:FT:=(az (ay (bh true) (ab 1) (vC (.int 0))))
noncomputable def nD:FS:=(qg 0 1 (aa (ab 1) (aa (ay bv (ab 0) (ab 1)) ah)))
noncomputable def C9:FS:=(aO (pE (2 ^ 4200) kR nD)
    (bg (aF (g1 xB) (aa (ab 0) ah))))
noncomputable def uc:FM:=ix 2 0 ([0,1]++[]) C9
theorem Ay:au ["_law_one","_law_other"] ["_law_one","_law_other"] (ag ux):=⟨rfl,rfl,rfl,by decide+kernel,rfl,by decide+kernel,by decide+kernel⟩
theorem ER(h:dA K mg "_law_gcd" ux f fd ["_law_one","_law_other"])(T:cf mg):aG P w K mg base cc 1 f fd ["_law_one","_law_other"] (dw K 2 uc):=by
  have nd:=Ay.nd
  exact h.fn Ay rfl rfl (fun cdv A outer s H E hr=>(@af _ _ _ _ _ _ _ _ (@ut _ _ _ _ _ _ _ _ _ OY (@aN _ _ _ _ _ _ _ _ _ (@yz _ _ _ rfl hr) (¬1) ae (aE _))
      (@am _ _ _ _ _ (@Fy _ _ _ _ _ 0 1 _ _ _ _ _ _ _ _ _ rfl nd rfl rfl (by decide) rfl rfl ((¬1)∘((@bo _ _ _ _ _ _ _ (¬0) (¬1))∘ac)) (by rfl) (by rfl))))
      (@am _ _ _ _ _ (@aw _ _ _ _ _ (@aV _ _ _ _ _ _ _ _ _ (@b_abs _ _) (by rfl) T.b_abs ((¬0)∘ac) (by decide) (by decide) (by rfl) (by rfl))))))
noncomputable def C_:FS:=(aO (bi 2 (dr 2 uc (aa (ab 0) (aa (ab 1) ah))))
    (bg (cz (aa (ay fP (ab 0) (ab 2)) (aa (ay fP (ab 1) (ab 2)) ah)))))
noncomputable def qI:FM:=ix 2 1 ([2]++[]) C_
theorem Az:au ["_law_top","_law_bottom","_law_common"] ["_law_top","_law_bottom"] (ag uy):=⟨rfl,rfl,rfl,by decide+kernel,rfl,by decide+kernel,by decide+kernel⟩
theorem ES(h:dA K mg "_law_low" uy f fd ["_law_top","_law_bottom"])(T:cf mg)(zLgcd:Cl P w K mg base "_law_gcd" ux ["_law_one","_law_other"] 1 2 uc):aG P w K mg base cc 2 f fd ["_law_top","_law_bottom"] (dw K 2 qI):=by
  obtain⟨M3,M4,Me,MU⟩:=zLgcd
  have nd:=Az.nd
  exact h.fn Az rfl rfl (fun cdv A outer s H E hr=>(@af _ _ _ _ _ _ _ _ (@aM _ _ _ _ _ 2 _ _ nd rfl (Or.inl rfl) (@bA _ _ _ _ _ _ _ _ _ _ _ _ _ _ _ Me MU (hr.mono (by decide)) ((¬0)∘((¬1)∘ac)) (by rfl) (by decide) (by rfl) (by rfl)) (by rfl) (by trivial))
      (@am _ _ _ _ _ (@aw _ _ _ _ _ (@bj _ _ _ _ _ _ ((@jB _ _ _ _ _ _ _ (¬0) (¬2))∘((@jB _ _ _ _ _ _ _ (¬1) (¬2))∘ac)))))))
noncomputable def jk:FS:=(aO (i4 (az (ay (bh false) (ab 1) (vC (.int 0))))
    (bg (ay du (eU (aa (cz (aa (vC (.int 1)) (aa (vC (.int 2)) ah))) (aa (cz (aa (vC (.int 1)) (aa (vC (.int 3)) ah))) (aa (cz (aa (vC (.int 2)) (aa (vC (.int 3)) ah))) (aa (cz (aa (vC (.int 1)) (aa (vC (.int 1)) ah))) (aa (cz (aa (vC (.int 0)) (aa (vC (.int 1)) ah))) (aa (cz (aa (vC (.int 3)) (aa (vC (.int 4)) ah))) ah))))))) (ay bv (ab 0) (vC (.int 6)))))
    cL)
    (aO (i4 (az (ay (bh false) (ab 1) (vC (.int 1))))
    (aO (bi 2 (ay cw (vC (.int 2)) (ay bv (ab 0) (vC (.int 9)))))
    (bg (dr 2 qI (aa (ay cw (vC (.int 1)) (ay bv (ay fP (ab 0) (vC (.int 9))) (ay lY (ab 2) (vC (.int 1))))) (aa (ab 2) ah)))))
    cL)
    (aO (i4 (az (ay (bh false) (ab 1) (vC (.int 2))))
    (aO (bi 2 (ay cw (vC (.int 1)) (ay bv (ab 0) (vC (.int 100)))))
    (bg (dr 2 qI (aa (ay bv (ay fP (ab 0) (vC (.int 100))) (ay cw (ab 2) (vC (.int 1)))) (aa (ab 2) ah)))))
    cL)
    (bg (cz (aa (vC (.int 1)) (aa (vC (.int 1)) ah)))))))
noncomputable def eM:FM:=ix 2 1 (([]++[])++((([2]++[])++[])++((([2]++[])++[])++[]))) jk
theorem qS:au ["_law_number","_law_kind","_law_bottom"] ["_law_number","_law_kind"] (ag jE):=⟨rfl,rfl,rfl,by decide+kernel,rfl,by decide+kernel,by decide+kernel⟩
theorem xT(h:dA K mg "_law_chance" jE f fd ["_law_number","_law_kind"])(T:cf mg)(zLlow:Cl P w K mg base "_law_low" uy ["_law_top","_law_bottom"] 2 2 qI):aG P w K mg base cc 3 f fd ["_law_number","_law_kind"] (dw K 2 eM):=by
  obtain⟨M5,M6,L8,ME⟩:=zLlow
  have nd:=qS.nd
  exact h.fn qS rfl rfl (fun cdv A outer s H E hr=>(@af _ _ _ _ _ _ _ _ (@cu _ _ _ _ _ _ _ _ _ _ _ (@aN _ _ _ _ _ _ _ _ _ (@gz _ _ _ rfl hr) (¬1) ae (aE _))
      (@am _ _ _ _ _ (@aw _ _ _ _ _ (@ck _ _ _ _ _ _ _ rfl (@cF _ _ _ _ _ ((@bj _ _ _ _ _ _ (ae∘(ae∘ac)))∘((@bj _ _ _ _ _ _ (ae∘(ae∘ac)))∘((@bj _ _ _ _ _ _ (ae∘(ae∘ac)))∘((@bj _ _ _ _ _ _ (ae∘(ae∘ac)))∘((@bj _ _ _ _ _ _ (ae∘(ae∘ac)))∘((@bj _ _ _ _ _ _ (ae∘(ae∘ac)))∘ac))))))) (@bo _ _ _ _ _ _ _ (¬0) ae) (fun _ _=>rfl))))
      (@aZ _ _))
      (@af _ _ _ _ _ _ _ _ (@cu _ _ _ _ _ _ _ _ _ _ _ (@aN _ _ _ _ _ _ _ _ _ (@gz _ _ _ rfl hr) (¬1) ae (aE _))
      (@af _ _ _ _ _ _ _ _ (@aM _ _ _ _ _ 2 _ _ nd rfl (Or.inl rfl) (@cP _ _ _ _ _ _ _ rfl ae (@bo _ _ _ _ _ _ _ (¬0) ae)) (by rfl) (by trivial))
      (@am _ _ _ _ _ (@aw _ _ _ _ _ (@bA _ _ _ _ _ _ _ _ _ _ _ _ _ _ _ L8 ME (hr.mono (by decide)) ((@cP _ _ _ _ _ _ _ rfl ae (@bo _ _ _ _ _ _ _ (@jB _ _ _ _ _ _ _ (¬0) ae) (@z6 _ _ _ _ _ _ _ (¬2) ae)))∘((¬2)∘ac)) (by rfl) (by decide) (by rfl) (by rfl)))))
      (@aZ _ _))
      (@af _ _ _ _ _ _ _ _ (@cu _ _ _ _ _ _ _ _ _ _ _ (@aN _ _ _ _ _ _ _ _ _ (@gz _ _ _ rfl hr) (¬1) ae (aE _))
      (@af _ _ _ _ _ _ _ _ (@aM _ _ _ _ _ 2 _ _ nd rfl (Or.inl rfl) (@cP _ _ _ _ _ _ _ rfl ae (@bo _ _ _ _ _ _ _ (¬0) ae)) (by rfl) (by trivial))
      (@am _ _ _ _ _ (@aw _ _ _ _ _ (@bA _ _ _ _ _ _ _ _ _ _ _ _ _ _ _ L8 ME (hr.mono (by decide)) ((@bo _ _ _ _ _ _ _ (@jB _ _ _ _ _ _ _ (¬0) ae) (@cP _ _ _ _ _ _ _ rfl (¬2) ae))∘((¬2)∘ac)) (by rfl) (by decide) (by rfl) (by rfl)))))
      (@aZ _ _))
      (@am _ _ _ _ _ (@aw _ _ _ _ _ (@bj _ _ _ _ _ _ (ae∘(ae∘ac)))))))))
noncomputable def wb:FS:=(bg (ay du (eU (aa (ay bv (ab 0) (vC (.int 7))) (aa (ay cw (vC (.int 5)) (ay bv (ab 0) (vC (.int 2)))) (aa (ay bv (ab 0) (vC (.int 1001))) (aa (ay lY (vC (.int 1000)) (ay bv (ab 0) (vC (.int 3)))) ah))))) (ay bv (ab 1) (vC (.int 4)))))
noncomputable def lm:FM:=ix 2 0 [] wb
theorem uD:au ["_law_number","_law_kind"] ["_law_number","_law_kind"] (ag lG):=⟨rfl,rfl,rfl,by decide+kernel,rfl,by decide+kernel,by decide+kernel⟩
theorem zE(h:dA K mg "_law_worth" lG f fd ["_law_number","_law_kind"])(T:cf mg):aG P w K mg base cc 1 f fd ["_law_number","_law_kind"] (dw K 2 lm):=by
  have nd:=uD.nd
  exact h.fn uD rfl rfl (fun cdv A outer s H E hr=>(@am _ _ _ _ _ (@aw _ _ _ _ _ (@ck _ _ _ _ _ _ _ rfl (@cF _ _ _ _ _ ((@bo _ _ _ _ _ _ _ (¬0) ae)∘((@cP _ _ _ _ _ _ _ rfl ae (@bo _ _ _ _ _ _ _ (¬0) ae))∘((@bo _ _ _ _ _ _ _ (¬0) ae)∘((@z6 _ _ _ _ _ _ _ ae (@bo _ _ _ _ _ _ _ (¬0) ae))∘ac))))) (@bo _ _ _ _ _ _ _ (¬1) ae) (fun _ _=>rfl)))))
noncomputable def oN:FI:=(cZ (aa (ab 2) ah))
noncomputable def gY:FS:=(aO (bi 8 (dr 1 bL (aa (ab 0) ah)))
    (aO (bi 9 (ay du (eU (aa (ay bv (ab 8) (ab 1)) (aa (vC (.int 0)) (aa (ay bv (ab 7) (ab 1)) (aa (ay bv (ab 8) (ab 1)) (aa (ay bv (ab 8) (vC (.int 2))) (aa (ay bv (ab 8) (ab 1)) ah))))))) (ab 3)))
    (aO (bi 10 (ay bv (ay cw (ay cw (ab 9) (vC (.int 1))) (ay bv (ay fP (ab 8) (vC (.int 12))) (ay lY (ab 1) (vC (.int 1))))) (ab 1)))
    (aO (i4 (az (ay (bh false) (ab 3) (vC (.int 4))))
    (lD (cz (aa (vC (.int 0)) (aa (vC (.int 1)) ah))) (bZ (aB (aj 9) (aB (aj 10) bM))))
    cL)
    (aO (bi 11 (dr 1 bL (aa (ab 0) ah)))
    (aO (bi 12 (cz (aa (aF (g2 yQ) (aa (ab 9) (aa (ab 10) ah))) (aa (aF (g2 xF) (aa (ab 9) (aa (ab 10) ah))) ah))))
    (eP (cg bO (ab 6) (aa (ay cw (ab 12) (cz (aa (dr 2 eM (aa (ab 11) (aa (ab 4) ah))) (aa (dr 2 lm (aa (ay fP (ab 11) (vC (.int 10007))) (aa (ab 5) ah))) ah)))) ah)))))))))
noncomputable def yr:FS:=(aO (bi 3 (ay bv (dr 1 bL (aa (ab 0) ah)) (vC (.int 6))))
    (aO (bi 4 (ay bv (dr 1 bL (aa (ab 0) ah)) (vC (.int 4))))
    (aO (bi 5 (ay bv (dr 1 bL (aa (ab 0) ah)) (vC (.int 4))))
    (aO (bi 6 (eU ah))
    (aO (gT ([7]++([8]++([9]++([10]++((([9]++([10]++[]))++[])++([11]++([12]++[]))))))) oN (aj 7) gY)
    (bg (aF (g1 dF) (aa (ab 6) ah))))))))
noncomputable def oT:FM:=ix 3 10 ([3]++([4]++([5]++([6]++(([7]++([8]++([9]++([10]++((([9]++([10]++[]))++[])++([11]++([12]++[])))))))++[]))))) yr
theorem wX:au ["_law_drawn","_law_things","_law_many","_law_shape","_law_odds","_law_worths","_law_found","_law_k","_law_number","_law_one","_law_other","_law_cell","_law_ends"] ["_law_drawn","_law_things","_law_many"] (ag pA):=⟨rfl,rfl,rfl,by decide+kernel,rfl,by decide+kernel,by decide+kernel⟩
theorem B1(h:dA K mg "_law_ties" pA f fd ["_law_drawn","_law_things","_law_many"])(T:cf mg)(zLnext:Cl P w K mg base "_law_next" ku ["_law_drawn"] 1 1 bL)(zLchance:Cl P w K mg base "_law_chance" jE ["_law_number","_law_kind"] 3 2 eM)(zLworth:Cl P w K mg base "_law_worth" lG ["_law_number","_law_kind"] 1 2 lm):aG P w K mg base cc 4 f fd ["_law_drawn","_law_things","_law_many"] (dw K 3 oT):=by
  obtain⟨Mn,Mo,KO,KU⟩:=zLnext
  obtain⟨MO,MP,Lq,Mf⟩:=zLchance
  obtain⟨MV,MW,LJ,Mz⟩:=zLworth
  have nd:=wX.nd
  exact h.fn wX rfl rfl (fun cdv A outer s H E hr=>(@af _ _ _ _ _ _ _ _ (@aM _ _ _ _ _ 3 _ _ nd rfl (Or.inl rfl) (@bo _ _ _ _ _ _ _ (@bA _ _ _ _ _ _ _ _ _ _ _ _ _ _ _ KO KU (hr.mono (by decide)) ((¬0)∘ac) (by rfl) (by decide) (by rfl) (by rfl)) ae) (by rfl) (by trivial))
      (@af _ _ _ _ _ _ _ _ (@aM _ _ _ _ _ 4 _ _ nd rfl (Or.inl rfl) (@bo _ _ _ _ _ _ _ (@bA _ _ _ _ _ _ _ _ _ _ _ _ _ _ _ KO KU (hr.mono (by decide)) ((¬0)∘ac) (by rfl) (by decide) (by rfl) (by rfl)) ae) (by rfl) (by trivial))
      (@af _ _ _ _ _ _ _ _ (@aM _ _ _ _ _ 5 _ _ nd rfl (Or.inl rfl) (@bo _ _ _ _ _ _ _ (@bA _ _ _ _ _ _ _ _ _ _ _ _ _ _ _ KO KU (hr.mono (by decide)) ((¬0)∘ac) (by rfl) (by decide) (by rfl) (by rfl)) ae) (by rfl) (by trivial))
      (@af _ _ _ _ _ _ _ _ (@aM _ _ _ _ _ 6 _ _ nd rfl (Or.inl rfl) (@cF _ _ _ _ _ ac) (by rfl) (by trivial))
      (@af _ _ _ _ _ _ _ _ (@kn _ _ _ _ _ _ _ _ _ _ _ OY rfl (@dq _ _ _ _ _ _ _ rfl T.b_range ((¬2)∘ac) (by rfl)) (@aJ _ _ _ 7 _ nd rfl (Or.inl rfl) (by trivial))
      (@af _ _ _ _ _ _ _ _ (@aM _ _ _ _ _ 8 _ _ nd rfl (Or.inl rfl) (@bA _ _ _ _ _ _ _ _ _ _ _ _ _ _ _ KO KU (hr.mono (by decide)) ((¬0)∘ac) (by rfl) (by decide) (by rfl) (by rfl)) (by rfl) (by trivial))
      (@af _ _ _ _ _ _ _ _ (@aM _ _ _ _ _ 9 _ _ nd rfl (Or.inl rfl) (@ck _ _ _ _ _ _ _ rfl (@cF _ _ _ _ _ ((@bo _ _ _ _ _ _ _ (¬8) (¬1))∘(ae∘((@bo _ _ _ _ _ _ _ (¬7) (¬1))∘((@bo _ _ _ _ _ _ _ (¬8) (¬1))∘((@bo _ _ _ _ _ _ _ (¬8) ae)∘((@bo _ _ _ _ _ _ _ (¬8) (¬1))∘ac))))))) (¬3) (fun _ _=>rfl)) (by rfl) (by trivial))
      (@af _ _ _ _ _ _ _ _ (@aM _ _ _ _ _ 10 _ _ nd rfl (Or.inl rfl) (@bo _ _ _ _ _ _ _ (@cP _ _ _ _ _ _ _ rfl (@cP _ _ _ _ _ _ _ rfl (¬9) ae) (@bo _ _ _ _ _ _ _ (@jB _ _ _ _ _ _ _ (¬8) ae) (@z6 _ _ _ _ _ _ _ (¬1) ae))) (¬1)) (by rfl) (by trivial))
      (@af _ _ _ _ _ _ _ _ (@cu _ _ _ _ _ _ _ _ _ _ _ (@aN _ _ _ _ _ _ _ _ _ (@gz _ _ _ rfl hr) (¬3) ae (aE _))
      (@am _ _ _ _ _ (@ph _ _ _ _ _ _ _ _ (@bj _ _ _ _ _ _ (ae∘(ae∘ac))) (@gS _ _ _ _ _ _ _ _ rfl rfl (@bc _ _ _ _ _ _ _ _ (@aJ _ _ _ 9 _ nd rfl (Or.inl rfl) (by trivial)) (@bc _ _ _ _ _ _ _ _ (@aJ _ _ _ 10 _ nd rfl (Or.inl rfl) (by trivial)) (@eD _ _) (by rfl)) (by rfl)) (bu (bu gQ)) (by rfl) (by rfl)) (by rfl) (by rfl) (by rfl)))
      (@aZ _ _))
      (@af _ _ _ _ _ _ _ _ (@aM _ _ _ _ _ 11 _ _ nd rfl (Or.inl rfl) (@bA _ _ _ _ _ _ _ _ _ _ _ _ _ _ _ KO KU (hr.mono (by decide)) ((¬0)∘ac) (by rfl) (by decide) (by rfl) (by rfl)) (by rfl) (by trivial))
      (@af _ _ _ _ _ _ _ _ (@aM _ _ _ _ _ 12 _ _ nd rfl (Or.inl rfl) (@bj _ _ _ _ _ _ ((@aV _ _ _ _ _ _ _ _ _ (@b_min _ _ rfl) (by rfl) T.b_min ((¬9)∘((¬10)∘ac)) (by decide) (by decide) (by rfl) (by rfl))∘((@aV _ _ _ _ _ _ _ _ _ (@b_max _ _ rfl) (by rfl) T.b_max ((¬9)∘((¬10)∘ac)) (by decide) (by decide) (by rfl) (by rfl))∘ac))) (by rfl) (by trivial))
      (@am _ _ _ _ _ (@fj _ _ _ _ _ (@gj _ _ _ _ _ _ _ _ _ rfl (¬6) ((@cP _ _ _ _ _ _ _ rfl (¬12) (@bj _ _ _ _ _ _ ((@bA _ _ _ _ _ _ _ _ _ _ _ _ _ _ _ Lq Mf (hr.mono (by decide)) ((¬11)∘((¬4)∘ac)) (by rfl) (by decide) (by rfl) (by rfl))∘((@bA _ _ _ _ _ _ _ _ _ _ _ _ _ _ _ LJ Mz (hr.mono (by decide)) ((@jB _ _ _ _ _ _ _ (¬11) ae)∘((¬5)∘ac)) (by rfl) (by decide) (by rfl) (by rfl))∘ac))))∘ac) (by rfl) (by rfl) (by rfl) (by rfl) (by rfl)) (by rfl))))))))) (by intro _;rfl))
      (@am _ _ _ _ _ (@aw _ _ _ _ _ (@aV _ _ _ _ _ _ _ _ _ (@b_tuple _ _ rfl) (by rfl) T.b_tuple ((¬6)∘ac) (by decide) (by decide) (by rfl) (by rfl))))))))))
noncomputable def rO:FI:=(cZ (aa (ab 3) ah))
noncomputable def nE:FS:=(eP (cg bO (ab 7) (aa (ay du (eU (aa (vC (.int 20)) (aa (ay cw (vC (.int 1)) (ay bv (dr 1 bL (aa (ab 0) ah)) (vC (.int 3)))) (aa (ay bv (dr 1 bL (aa (ab 0) ah)) (vC (.int 21))) ah)))) (ab 6)) ah)))
noncomputable def C':FS:=(aO (bi 3 (ay bv (dr 1 bL (aa (ab 0) ah)) (ay cw (ab 1) (vC (.int 1)))))
    (aO (bi 4 (ay oI (ay bv (dr 1 bL (aa (ab 0) ah)) (ay cw (ab 2) (vC (.int 1)))) (aF (g1 ve) (aa (ay Dg (ab 3) (vC (.int 1))) ah))))
    (aO (bi 5 (dr 3 oT (aa (ab 0) (aa (aF (g2 xF) (aa (vC (.int 2)) (aa (ab 3) ah))) (aa (ab 4) ah)))))
    (aO (bi 6 (ay bv (dr 1 bL (aa (ab 0) ah)) (vC (.int 3))))
    (aO (bi 7 (eU ah))
    (aO (gT ([8]++[]) rO (aj 8) nE)
    (aO (bi 9 (ay du (eU (aa (vC (.int 40)) (aa (ay cw (vC (.int 1)) (ay bv (dr 1 bL (aa (ab 0) ah)) (aF (g2 xF) (aa (vC (.int 1)) (aa (ab 4) ah))))) (aa (ay bv (dr 1 bL (aa (ab 0) ah)) (vC (.int 41))) ah)))) (ay bv (dr 1 bL (aa (ab 0) ah)) (vC (.int 3)))))
    (bg (cz (aa (ab 3) (aa (ab 5) (aa (aF (g1 dF) (aa (ab 7) ah)) (aa (ab 9) ah)))))))))))))
noncomputable def qJ:FM:=ix 3 7 ([3]++([4]++([5]++([6]++([7]++(([8]++[])++([9]++[]))))))) C'
theorem AB:au ["_law_drawn","_law_most","_law_ties_here","_law_things","_law_many","_law_rows","_law_way","_law_patience","_law_k","_law_asks"] ["_law_drawn","_law_most","_law_ties_here"] (ag uA):=⟨rfl,rfl,rfl,by decide+kernel,rfl,by decide+kernel,by decide+kernel⟩
theorem EU(h:dA K mg "_law_web" uA f fd ["_law_drawn","_law_most","_law_ties_here"])(T:cf mg)(zLties:Cl P w K mg base "_law_ties" pA ["_law_drawn","_law_things","_law_many"] 4 3 oT)(zLnext:Cl P w K mg base "_law_next" ku ["_law_drawn"] 1 1 bL):aG P w K mg base cc 5 f fd ["_law_drawn","_law_most","_law_ties_here"] (dw K 3 qJ):=by
  obtain⟨M0,M1,LV,MF⟩:=zLties
  obtain⟨Mn,Mo,KO,KU⟩:=zLnext
  have nd:=AB.nd
  exact h.fn AB rfl rfl (fun cdv A outer s H E hr=>(@af _ _ _ _ _ _ _ _ (@aM _ _ _ _ _ 3 _ _ nd rfl (Or.inl rfl) (@bo _ _ _ _ _ _ _ (@bA _ _ _ _ _ _ _ _ _ _ _ _ _ _ _ KO KU (hr.mono (by decide)) ((¬0)∘ac) (by rfl) (by decide) (by rfl) (by rfl)) (@cP _ _ _ _ _ _ _ rfl (¬1) ae)) (by rfl) (by trivial))
      (@af _ _ _ _ _ _ _ _ (@aM _ _ _ _ _ 4 _ _ nd rfl (Or.inl rfl) (@qO _ _ _ _ _ _ _ rfl (@bo _ _ _ _ _ _ _ (@bA _ _ _ _ _ _ _ _ _ _ _ _ _ _ _ KO KU (hr.mono (by decide)) ((¬0)∘ac) (by rfl) (by decide) (by rfl) (by rfl)) (@cP _ _ _ _ _ _ _ rfl (¬2) ae)) (@aV _ _ _ _ _ _ _ _ _ (@b_int _ _) (by rfl) T.b_int ((@pb _ _ _ _ _ _ _ _ _ (@yy _ _) (¬3) ae (aE _))∘ac) (by decide) (by decide) (by rfl) (by rfl))) (by rfl) (by trivial))
      (@af _ _ _ _ _ _ _ _ (@aM _ _ _ _ _ 5 _ _ nd rfl (Or.inl rfl) (@bA _ _ _ _ _ _ _ _ _ _ _ _ _ _ _ LV MF (hr.mono (by decide)) ((¬0)∘((@aV _ _ _ _ _ _ _ _ _ (@b_max _ _ rfl) (by rfl) T.b_max (ae∘((¬3)∘ac)) (by decide) (by decide) (by rfl) (by rfl))∘((¬4)∘ac))) (by rfl) (by decide) (by rfl) (by rfl)) (by rfl) (by trivial))
      (@af _ _ _ _ _ _ _ _ (@aM _ _ _ _ _ 6 _ _ nd rfl (Or.inl rfl) (@bo _ _ _ _ _ _ _ (@bA _ _ _ _ _ _ _ _ _ _ _ _ _ _ _ KO KU (hr.mono (by decide)) ((¬0)∘ac) (by rfl) (by decide) (by rfl) (by rfl)) ae) (by rfl) (by trivial))
      (@af _ _ _ _ _ _ _ _ (@aM _ _ _ _ _ 7 _ _ nd rfl (Or.inl rfl) (@cF _ _ _ _ _ ac) (by rfl) (by trivial))
      (@af _ _ _ _ _ _ _ _ (@kn _ _ _ _ _ _ _ _ _ _ _ OY rfl (@dq _ _ _ _ _ _ _ rfl T.b_range ((¬3)∘ac) (by rfl)) (@aJ _ _ _ 8 _ nd rfl (Or.inl rfl) (by trivial))
      (@am _ _ _ _ _ (@fj _ _ _ _ _ (@gj _ _ _ _ _ _ _ _ _ rfl (¬7) ((@ck _ _ _ _ _ _ _ rfl (@cF _ _ _ _ _ (ae∘((@cP _ _ _ _ _ _ _ rfl ae (@bo _ _ _ _ _ _ _ (@bA _ _ _ _ _ _ _ _ _ _ _ _ _ _ _ KO KU (hr.mono (by decide)) ((¬0)∘ac) (by rfl) (by decide) (by rfl) (by rfl)) ae))∘((@bo _ _ _ _ _ _ _ (@bA _ _ _ _ _ _ _ _ _ _ _ _ _ _ _ KO KU (hr.mono (by decide)) ((¬0)∘ac) (by rfl) (by decide) (by rfl) (by rfl)) ae)∘ac)))) (¬6) (fun _ _=>rfl))∘ac) (by rfl) (by rfl) (by rfl) (by rfl) (by rfl)) (by rfl))) (by intro _;rfl))
      (@af _ _ _ _ _ _ _ _ (@aM _ _ _ _ _ 9 _ _ nd rfl (Or.inl rfl) (@ck _ _ _ _ _ _ _ rfl (@cF _ _ _ _ _ (ae∘((@cP _ _ _ _ _ _ _ rfl ae (@bo _ _ _ _ _ _ _ (@bA _ _ _ _ _ _ _ _ _ _ _ _ _ _ _ KO KU (hr.mono (by decide)) ((¬0)∘ac) (by rfl) (by decide) (by rfl) (by rfl)) (@aV _ _ _ _ _ _ _ _ _ (@b_max _ _ rfl) (by rfl) T.b_max (ae∘((¬4)∘ac)) (by decide) (by decide) (by rfl) (by rfl))))∘((@bo _ _ _ _ _ _ _ (@bA _ _ _ _ _ _ _ _ _ _ _ _ _ _ _ KO KU (hr.mono (by decide)) ((¬0)∘ac) (by rfl) (by decide) (by rfl) (by rfl)) ae)∘ac)))) (@bo _ _ _ _ _ _ _ (@bA _ _ _ _ _ _ _ _ _ _ _ _ _ _ _ KO KU (hr.mono (by decide)) ((¬0)∘ac) (by rfl) (by decide) (by rfl) (by rfl)) ae) (fun _ _=>rfl)) (by rfl) (by trivial))
      (@am _ _ _ _ _ (@aw _ _ _ _ _ (@bj _ _ _ _ _ _ ((¬3)∘((¬5)∘((@aV _ _ _ _ _ _ _ _ _ (@b_tuple _ _ rfl) (by rfl) T.b_tuple ((¬7)∘ac) (by decide) (by decide) (by rfl) (by rfl))∘((¬9)∘ac)))))))))))))))
noncomputable def mF:FI:=(jX (ab 1))
noncomputable def eG:FT:=(az (ay (uU false) (ab 0) (xh (ay du (ay du (ab 1) (vC (.int 1))) (ab 2)) gG (gf (vC (.int 2))))))
noncomputable def eI:FE:=(ab 2)
noncomputable def qk:FS:=(bg (aF (g1 gB) (aa (b_ [(2,"_law_thing"),(0,"_law_web_here")] 1 mF (aj 2) eG eI) ah)))
noncomputable def fC:FM:=ix 3 0 [] qk
theorem pH:au ["_law_web_here","_law_asked","_law_thing"] ["_law_web_here","_law_asked","_law_thing"] (ag ie):=⟨rfl,rfl,rfl,by decide+kernel,rfl,by decide+kernel,by decide+kernel⟩
theorem vA(h:dA K mg "_law_asks_of" ie f fd ["_law_web_here","_law_asked","_law_thing"])(T:cf mg):aG P w K mg base cc 1 f fd ["_law_web_here","_law_asked","_law_thing"] (dw K 3 fC):=by
  have nd:=pH.nd
  exact h.fn pH rfl rfl (fun cdv A outer s H E hr=>(@am _ _ _ _ _ (@aw _ _ _ _ _ (@aV _ _ _ _ _ _ _ _ _ (@b_len _ _ rfl) (by rfl) T.b_len ((@dJ _ _ _ _ _ _ _ _ _ _ _ _ _ [(2,"_law_thing"),(0,"_law_web_here")] ["_law_tie"] rfl rfl (@eY _ _ _ _ _ rfl (¬1))
        (fun C s0 H0 fp=>(@aJ _ _ _ 2 _ (show OI (["_law_thing","_law_web_here","_law_tie"]:List Str) by decide+kernel) rfl (Or.inl rfl) (by trivial))) (fun C s0 H0 fp=>(@iZ _ _ _ _ (@aN _ _ _ _ _ _ _ _ _ (@xn _ _ _ rfl hr) (¬0) (@nH _ _ _ _ _ _ _ _ _ _ rfl (@ck _ _ _ _ _ _ _ rfl (@ck _ _ _ _ _ _ _ rfl (¬1) ae (fun _ _=>rfl)) (¬2) (fun _ _=>rfl)) (@iX _ _) (@iY _ _ _ _ ae)) (by with_unfolding_all rfl))))
        (fun C s0 H0 fp=>(¬2)) rfl (by rfl) (by intro _;rfl))∘ac) (by decide) (by decide) (by rfl) (by rfl)))))
noncomputable def wA:FI:=(jX (xh (ay du (ay du (ab 0) (vC (.int 1))) (ab 2)) gG (gf (vC (.int 2)))))
noncomputable def iD:FS:=(i4 (uQ (az (ay (uU false) (ab 5) (ab 4))) (az (ay Df (dr 3 fC (aa (ab 0) (aa (ab 3) (aa (ab 5) ah)))) (ay du (ay du (ab 0) (vC (.int 2))) (ab 5)))))
    (bg (vC (.bool false)))
    cL)
noncomputable def ql:FS:=(aO (lD (ab 1) (bZ (aB (aj 3) (aB (aj 4) bM))))
    (aO (i4 (uQ (az (ay (uU false) (ab 2) (ab 3))) (az (ay Df (aF (g1 gB) (aa (ab 3) ah)) (ay du (ab 0) (vC (.int 3))))))
    (bg (vC (.bool false)))
    cL)
    (aO (gT ([5]++([]++[])) wA (aj 5) iD)
    (bg (vC (.bool true))))))
noncomputable def jx:FM:=ix 3 3 (([3]++([4]++[]))++(([]++[])++(([5]++([]++[]))++[]))) ql
theorem AA:au ["_law_web_here","_law_stand","_law_tie","_law_asked","_law_taken","_law_thing"] ["_law_web_here","_law_stand","_law_tie"] (ag qQ):=⟨rfl,rfl,rfl,by decide+kernel,rfl,by decide+kernel,by decide+kernel⟩
theorem ET(h:dA K mg "_law_may" qQ f fd ["_law_web_here","_law_stand","_law_tie"])(T:cf mg)(zLasks_of:Cl P w K mg base "_law_asks_of" ie ["_law_web_here","_law_asked","_law_thing"] 1 3 fC):aG P w K mg base cc 2 f fd ["_law_web_here","_law_stand","_law_tie"] (dw K 3 jx):=by
  obtain⟨MG,MH,Li,L9⟩:=zLasks_of
  have nd:=AA.nd
  exact h.fn AA rfl rfl (fun cdv A outer s H E hr=>(@af _ _ _ _ _ _ _ _ (@ph _ _ _ _ _ _ _ _ (¬1) (@gS _ _ _ _ _ _ _ _ rfl rfl (@bc _ _ _ _ _ _ _ _ (@aJ _ _ _ 3 _ nd rfl (Or.inl rfl) (by trivial)) (@bc _ _ _ _ _ _ _ _ (@aJ _ _ _ 4 _ nd rfl (Or.inl rfl) (by trivial)) (@eD _ _) (by rfl)) (by rfl)) (bu (bu gQ)) (by rfl) (by rfl)) (by rfl) (by rfl) (by rfl))
      (@af _ _ _ _ _ _ _ _ (@cu _ _ _ _ _ _ _ _ _ _ _ (@qf _ _ _ _ (@pj _ _ _ _ _ _ _ _ (@aN _ _ _ _ _ _ _ _ _ (@xn _ _ _ rfl hr) (¬2) (¬3) (by with_unfolding_all rfl)) (@ko _ _ _ _ _ (@aN _ _ _ _ _ _ _ _ _ (@yx _ _) (@aV _ _ _ _ _ _ _ _ _ (@b_len _ _ rfl) (by rfl) T.b_len ((¬3)∘ac) (by decide) (by decide) (by rfl) (by rfl)) (@ck _ _ _ _ _ _ _ rfl (¬0) ae (fun _ _=>rfl)) (aE _)))))
      (@am _ _ _ _ _ (@aw _ _ _ _ _ (@mK _ _ _ _ _)))
      (@aZ _ _))
      (@af _ _ _ _ _ _ _ _ (@kn _ _ _ _ _ _ _ _ _ _ _ OY rfl (@eY _ _ _ _ _ rfl (@nH _ _ _ _ _ _ _ _ _ _ rfl (@ck _ _ _ _ _ _ _ rfl (@ck _ _ _ _ _ _ _ rfl (¬0) ae (fun _ _=>rfl)) (¬2) (fun _ _=>rfl)) (@iX _ _) (@iY _ _ _ _ ae))) (@aJ _ _ _ 5 _ nd rfl (Or.inl rfl) (by trivial))
      (@am _ _ _ _ _ (@cu _ _ _ _ _ _ _ _ _ _ _ (@qf _ _ _ _ (@pj _ _ _ _ _ _ _ _ (@aN _ _ _ _ _ _ _ _ _ (@xn _ _ _ rfl hr) (¬5) (¬4) (by with_unfolding_all rfl)) (@ko _ _ _ _ _ (@aN _ _ _ _ _ _ _ _ _ (@yx _ _) (@bA _ _ _ _ _ _ _ _ _ _ _ _ _ _ _ Li L9 (hr.mono (by decide)) ((¬0)∘((¬3)∘((¬5)∘ac))) (by rfl) (by decide) (by rfl) (by rfl)) (@ck _ _ _ _ _ _ _ rfl (@ck _ _ _ _ _ _ _ rfl (¬0) ae (fun _ _=>rfl)) (¬5) (fun _ _=>rfl)) (aE _)))))
      (@am _ _ _ _ _ (@aw _ _ _ _ _ (@mK _ _ _ _ _)))
      (@aZ _ _))) (by intro _;rfl))
      (@am _ _ _ _ _ (@aw _ _ _ _ _ (@mK _ _ _ _ _)))))))
noncomputable def nX:FS:=(aO (lD (ab 1) (bZ (aB (aj 4) (aB (aj 5) bM))))
    (aO (bi 6 (ab 5))
    (aO (i4 (az (ab 3))
    (bi 6 (aF (g1 dF) (aa (aF (g1 ed) (aa (ay cw (ab 5) (xh (ay du (ay du (ab 0) (vC (.int 1))) (ab 2)) gG (gf (vC (.int 2))))) ah)) ah)))
    cL)
    (bg (cz (aa (aF (g1 dF) (aa (aF (g1 ed) (aa (ay cw (ab 4) (cz (aa (ab 2) ah))) ah)) ah)) (aa (ab 6) ah)))))))
noncomputable def f_:FM:=ix 4 3 (([4]++([5]++[]))++([6]++(([6]++[])++[]))) nX
theorem qR:au ["_law_web_here","_law_stand","_law_tie","_law_truth","_law_asked","_law_taken","_law_more"] ["_law_web_here","_law_stand","_law_tie","_law_truth"] (ag jD):=⟨rfl,rfl,rfl,by decide+kernel,rfl,by decide+kernel,by decide+kernel⟩
theorem xS(h:dA K mg "_law_behind" jD f fd ["_law_web_here","_law_stand","_law_tie","_law_truth"])(T:cf mg):aG P w K mg base cc 1 f fd ["_law_web_here","_law_stand","_law_tie","_law_truth"] (dw K 4 f_):=by
  have nd:=qR.nd
  exact h.fn qR rfl rfl (fun cdv A outer s H E hr=>(@af _ _ _ _ _ _ _ _ (@ph _ _ _ _ _ _ _ _ (¬1) (@gS _ _ _ _ _ _ _ _ rfl rfl (@bc _ _ _ _ _ _ _ _ (@aJ _ _ _ 4 _ nd rfl (Or.inl rfl) (by trivial)) (@bc _ _ _ _ _ _ _ _ (@aJ _ _ _ 5 _ nd rfl (Or.inl rfl) (by trivial)) (@eD _ _) (by rfl)) (by rfl)) (bu (bu gQ)) (by rfl) (by rfl)) (by rfl) (by rfl) (by rfl))
      (@af _ _ _ _ _ _ _ _ (@aM _ _ _ _ _ 6 _ _ nd rfl (Or.inl rfl) (¬5) (by rfl) (by trivial))
      (@af _ _ _ _ _ _ _ _ (@cu _ _ _ _ _ _ _ _ _ _ _ (@gn _ _ _ _ (¬3) (by intro _;rfl))
      (@am _ _ _ _ _ (@aM _ _ _ _ _ 6 _ _ nd rfl (Or.inl rfl) (@aV _ _ _ _ _ _ _ _ _ (@b_tuple _ _ rfl) (by rfl) T.b_tuple ((@aV _ _ _ _ _ _ _ _ _ (@b_sorted _ _ rfl) (by rfl) T.b_sorted ((@cP _ _ _ _ _ _ _ rfl (¬5) (@nH _ _ _ _ _ _ _ _ _ _ rfl (@ck _ _ _ _ _ _ _ rfl (@ck _ _ _ _ _ _ _ rfl (¬0) ae (fun _ _=>rfl)) (¬2) (fun _ _=>rfl)) (@iX _ _) (@iY _ _ _ _ ae)))∘ac) (by decide) (by decide) (by rfl) (by rfl))∘ac) (by decide) (by decide) (by rfl) (by rfl)) (by rfl) (by trivial)))
      (@aZ _ _))
      (@am _ _ _ _ _ (@aw _ _ _ _ _ (@bj _ _ _ _ _ _ ((@aV _ _ _ _ _ _ _ _ _ (@b_tuple _ _ rfl) (by rfl) T.b_tuple ((@aV _ _ _ _ _ _ _ _ _ (@b_sorted _ _ rfl) (by rfl) T.b_sorted ((@cP _ _ _ _ _ _ _ rfl (¬4) (@bj _ _ _ _ _ _ ((¬2)∘ac)))∘ac) (by decide) (by decide) (by rfl) (by rfl))∘ac) (by decide) (by decide) (by rfl) (by rfl))∘((¬6)∘ac)))))))))
noncomputable def tT:FI:=(cZ (aa (aF (g1 gB) (aa (ay du (ab 0) (vC (.int 1))) ah)) ah))
noncomputable def tu:FT:=(az (dr 3 jx (aa (ab 0) (aa (ab 1) (aa (ab 2) ah)))))
noncomputable def tN:FE:=(ab 2)
noncomputable def xl:FS:=(bg (b_ [(0,"_law_web_here"),(1,"_law_stand")] 1 tT (aj 2) tu tN))
noncomputable def l7:FM:=ix 2 0 [] xl
theorem pG:au ["_law_web_here","_law_stand"] ["_law_web_here","_law_stand"] (ag ic):=⟨rfl,rfl,rfl,by decide+kernel,rfl,by decide+kernel,by decide+kernel⟩
theorem vz(h:dA K mg "_law_askable" ic f fd ["_law_web_here","_law_stand"])(T:cf mg)(zLmay:Cl P w K mg base "_law_may" qQ ["_law_web_here","_law_stand","_law_tie"] 2 3 jx):aG P w K mg base cc 3 f fd ["_law_web_here","_law_stand"] (dw K 2 l7):=by
  obtain⟨MA,MB,LU,L0⟩:=zLmay
  have nd:=pG.nd
  exact h.fn pG rfl rfl (fun cdv A outer s H E hr=>(@am _ _ _ _ _ (@aw _ _ _ _ _ (@dJ _ _ _ _ _ _ _ _ _ _ _ _ _ [(0,"_law_web_here"),(1,"_law_stand")] ["_law_tie"] rfl rfl (@dq _ _ _ _ _ _ _ rfl T.b_range ((@aV _ _ _ _ _ _ _ _ _ (@b_len _ _ rfl) (by rfl) T.b_len ((@ck _ _ _ _ _ _ _ rfl (¬0) ae (fun _ _=>rfl))∘ac) (by decide) (by decide) (by rfl) (by rfl))∘ac) (by rfl))
        (fun C s0 H0 fp=>(@aJ _ _ _ 2 _ (show OI (["_law_web_here","_law_stand","_law_tie"]:List Str) by decide+kernel) rfl (Or.inl rfl) (by trivial))) (fun C s0 H0 fp=>(@iZ _ _ _ _ (@gn _ _ _ _ (@bA _ _ _ _ _ _ _ _ _ _ _ _ _ _ _ LU L0 (hr.mono (by decide)) ((¬0)∘((¬1)∘((¬2)∘ac))) (by rfl) (by decide) (by rfl) (by rfl)) (by intro _;rfl))))
        (fun C s0 H0 fp=>(¬2)) rfl (by rfl) (by intro _;rfl)))))
noncomputable def tU:FI:=(jX (ab 1))
noncomputable def tw:FT:=(az (ab 2))
noncomputable def kU:FE:=(ay du (ay du (ay du (ab 0) (vC (.int 1))) (ab 1)) (vC (.int 3)))
noncomputable def yq:FS:=(bg (aF (g1 (hE qB)) (aa (b_ [(0,"_law_web_here")] 2 tU (bZ (aB (aj 1) (aB (aj 2) bM))) tw kU) ah)))
noncomputable def oS:FM:=ix 2 0 [] yq
theorem wU:au ["_law_web_here","_law_run"] ["_law_web_here","_law_run"] (ag pw):=⟨rfl,rfl,rfl,by decide+kernel,rfl,by decide+kernel,by decide+kernel⟩
theorem BY(h:dA K mg "_law_kept" pw f fd ["_law_web_here","_law_run"])(T:cf mg):aG P w K mg base cc 1 f fd ["_law_web_here","_law_run"] (dw K 2 oS):=by
  have nd:=wU.nd
  exact h.fn wU rfl rfl (fun cdv A outer s H E hr=>(@am _ _ _ _ _ (@aw _ _ _ _ _ (@aV _ _ _ _ _ _ _ _ _ (@b_sum _ _ _ rfl hr) (by rfl) T.b_sum ((@dJ _ _ _ _ _ _ _ _ _ _ _ _ _ [(0,"_law_web_here")] ["_law_tie","_law_truth"] rfl rfl (@eY _ _ _ _ _ rfl (¬1))
        (fun C s0 H0 fp=>(@gS _ _ _ _ _ _ _ _ rfl rfl (@bc _ _ _ _ _ _ _ _ (@aJ _ _ _ 1 _ (show OI (["_law_web_here","_law_tie","_law_truth"]:List Str) by decide+kernel) rfl (Or.inl rfl) (by trivial)) (@bc _ _ _ _ _ _ _ _ (@aJ _ _ _ 2 _ (show OI (["_law_web_here","_law_tie","_law_truth"]:List Str) by decide+kernel) rfl (Or.inl rfl) (by trivial)) (@eD _ _) (by rfl)) (by rfl)) (bu (bu gQ)) (by rfl) (by rfl))) (fun C s0 H0 fp=>(@iZ _ _ _ _ (@gn _ _ _ _ (¬2) (by intro _;rfl))))
        (fun C s0 H0 fp=>(@ck _ _ _ _ _ _ _ rfl (@ck _ _ _ _ _ _ _ rfl (@ck _ _ _ _ _ _ _ rfl (¬0) ae (fun _ _=>rfl)) (¬1) (fun _ _=>rfl)) ae (fun _ _=>rfl))) rfl (by rfl) (by intro _;rfl))∘ac) (by decide) (by decide) (by rfl) (by rfl)))))
noncomputable def k8:FI:=(jX (ab 1))
noncomputable def kJ:FS:=(bi 2 (dr 4 f_ (aa (ab 0) (aa (ab 2) (aa (ab 3) (aa (ab 4) ah))))))
noncomputable def nZ:FS:=(aO (bi 2 (cz (aa (cz ah) (aa (cz ah) ah))))
    (aO (gT (([3]++([4]++[]))++[2]) k8 (bZ (aB (aj 3) (aB (aj 4) bM))) kJ)
    (bg (ab 2))))
noncomputable def gb:FM:=ix 2 3 ([2]++((([3]++([4]++[]))++[2])++[])) nZ
theorem mN:au ["_law_web_here","_law_run","_law_stand","_law_tie","_law_truth"] ["_law_web_here","_law_run"] (ag gr):=⟨rfl,rfl,rfl,by decide+kernel,rfl,by decide+kernel,by decide+kernel⟩
theorem uj(h:dA K mg "_law_stand_of" gr f fd ["_law_web_here","_law_run"])(T:cf mg)(zLbehind:Cl P w K mg base "_law_behind" jD ["_law_web_here","_law_stand","_law_tie","_law_truth"] 1 4 f_):aG P w K mg base cc 2 f fd ["_law_web_here","_law_run"] (dw K 2 gb):=by
  obtain⟨MQ,MR,Lr,Mh⟩:=zLbehind
  have nd:=mN.nd
  exact h.fn mN rfl rfl (fun cdv A outer s H E hr=>(@af _ _ _ _ _ _ _ _ (@aM _ _ _ _ _ 2 _ _ nd rfl (Or.inl rfl) (@bj _ _ _ _ _ _ ((@bj _ _ _ _ _ _ ac)∘((@bj _ _ _ _ _ _ ac)∘ac))) (by rfl) (by trivial))
      (@af _ _ _ _ _ _ _ _ (@kn _ _ _ _ _ _ _ _ _ _ _ OY rfl (@eY _ _ _ _ _ rfl (¬1)) (@gS _ _ _ _ _ _ _ _ rfl rfl (@bc _ _ _ _ _ _ _ _ (@aJ _ _ _ 3 _ nd rfl (Or.inl rfl) (by trivial)) (@bc _ _ _ _ _ _ _ _ (@aJ _ _ _ 4 _ nd rfl (Or.inl rfl) (by trivial)) (@eD _ _) (by rfl)) (by rfl)) (bu (bu gQ)) (by rfl) (by rfl))
      (@am _ _ _ _ _ (@aM _ _ _ _ _ 2 _ _ nd rfl (Or.inl rfl) (@bA _ _ _ _ _ _ _ _ _ _ _ _ _ _ _ Lr Mh (hr.mono (by decide)) ((¬0)∘((¬2)∘((¬3)∘((¬4)∘ac)))) (by rfl) (by decide) (by rfl) (by rfl)) (by rfl) (by trivial))) (by intro _;rfl))
      (@am _ _ _ _ _ (@aw _ _ _ _ _ (¬2))))))
noncomputable def k7:FI:=(jX (ab 0))
noncomputable def kW:FE:=(aF (g1 gC) (aa (ab 0) ah))
noncomputable def nY:FS:=(aO (i4 (az (ay (bh false) (ab 0) (eU ah)))
    (bg (vC (.str ("none":Str))))
    cL)
    (bg (ay mE (vC (.str (" ":Str))) (b_ [] 1 k7 (aj 0) jc kW))))
noncomputable def eg:FM:=ix 1 0 (([]++[])++[]) nY
theorem mM:au ["_law_numbers"] ["_law_numbers"] (ag gq):=⟨rfl,rfl,rfl,by decide+kernel,rfl,by decide+kernel,by decide+kernel⟩
theorem ui(h:dA K mg "_law_row_text" gq f fd ["_law_numbers"])(T:cf mg):aG P w K mg base cc 1 f fd ["_law_numbers"] (dw K 1 eg):=by
  have nd:=mM.nd
  exact h.fn mM rfl rfl (fun cdv A outer s H E hr=>(@af _ _ _ _ _ _ _ _ (@cu _ _ _ _ _ _ _ _ _ _ _ (@aN _ _ _ _ _ _ _ _ _ (@gz _ _ _ rfl hr) (¬0) (@cF _ _ _ _ _ ac) (aE _))
      (@am _ _ _ _ _ (@aw _ _ _ _ _ (@aI _ _ _ _ _)))
      (@aZ _ _))
      (@am _ _ _ _ _ (@aw _ _ _ _ _ (@z5 _ _ _ _ _ _ _ _ _ rfl (@dJ _ _ _ _ _ _ _ _ _ _ _ _ _ [] ["_law_number"] rfl rfl (@eY _ _ _ _ _ rfl (¬0))
        (fun C s0 H0 fp=>(@aJ _ _ _ 0 _ (show OI (["_law_number"]:List Str) by decide+kernel) rfl (Or.inl rfl) (by trivial))) (fun C s0 H0 fp=>(@nL _ _))
        (fun C s0 H0 fp=>(@aV _ _ _ _ _ _ _ _ _ (@b_str _ _) (by rfl) T.b_str ((¬0)∘ac) (by decide) (by decide) (by rfl) (by rfl))) rfl (by rfl) (by intro _;rfl)) (by rfl) (by rfl) (by rfl) (by rfl) (by rfl))))))
noncomputable def wz:FI:=(jX (ab 3))
noncomputable def rA:FT:=(az (ab 1))
noncomputable def rJ:FE:=(ab 0)
noncomputable def iF:XS:=(pC 1 3 4 ([5]++((([6]++(([]++[])++([]++[])))++[])++(((([]++[])++([6]++([]++[])))++[])++(([]++[])++(([]++[])++(([]++[])++(([]++[])++([]++[])))))))) (aO (bi 5 (dr 2 gb (aa (ab 0) (aa (ab 3) ah))))
    (aO (i4 (az (ay (bh false) (ny (ab 2) gG (gf (vC (.int 4)))) (vC (.str ("ask ":Str)))))
    (aO (bi 6 (aF (g1 iP) (aa (ny (ab 2) (gf (vC (.int 4))) gG) ah)))
    (aO (i4 (uQ (az (ay (bh true) (ab 4) (eU ah))) (ml (az (dr 3 jx (aa (ab 0) (aa (ab 5) (aa (ab 6) ah)))))))
    (bg (vC (.str ("NoAsk":Str))))
    cL)
    (aO (eP (cg bO (ab 4) (aa (ab 6) ah)))
    (bg (vC (.str ("asked":Str)))))))
    cL)
    (aO (i4 (uQ (az (ay (bh false) (ab 2) (vC (.str ("yes":Str))))) (az (ay (bh false) (ab 2) (vC (.str ("no":Str))))))
    (aO (i4 (az (ay (bh false) (ab 4) (eU ah)))
    (bg (vC (.str ("NoAsk":Str))))
    cL)
    (aO (bi 6 (cg m9 (ab 4) ah))
    (aO (eP (cg bO (ab 3) (aa (cz (aa (ab 6) (aa (ay (bh false) (ab 2) (vC (.str ("yes":Str)))) ah))) ah)))
    (bg (ay du (eU (aa (vC (.str ("gone":Str))) (aa (ay g_ (vC (.str ("kept ":Str))) (aF (g1 gC) (aa (ay du (ay du (ay du (ab 0) (vC (.int 1))) (ab 6)) (vC (.int 3))) ah))) ah))) (aF (g1 ve) (aa (ay (bh false) (ab 2) (vC (.str ("yes":Str)))) ah)))))))
    cL)
    (aO (i4 (az (ay (bh false) (ab 2) (vC (.str ("may":Str)))))
    (bg (dr 1 eg (aa (dr 2 l7 (aa (ab 0) (aa (ab 5) ah))) ah)))
    cL)
    (aO (i4 (az (ay (bh false) (ab 2) (vC (.str ("kept":Str)))))
    (bg (ay g_ (ay g_ (dr 1 eg (aa (b_ [] 2 wz (bZ (aB (aj 0) (aB (aj 1) bM))) rA rJ) ah)) (vC (.str (" ":Str)))) (aF (g1 gC) (aa (dr 2 oS (aa (ab 0) (aa (ab 3) ah))) ah))))
    cL)
    (aO (i4 (mj (az (ay (bh false) (ab 4) (eU ah))) (az (ay (bh false) (ab 3) (eU ah))))
    (bg (vC (.str ("NoAsk":Str))))
    cL)
    (aO (i4 (az (ay (bh false) (ab 4) (eU ah)))
    (eP (cg m9 (ab 3) ah))
    cL)
    (aO (eP (cg r_ (ab 4) ah))
    (bg (vC (.str ("back":Str)))))))))))))
noncomputable def cE:MX:=dh 3 4 (3::4::([5]++((([6]++(([]++[])++([]++[])))++[])++(((([]++[])++([6]++([]++[])))++[])++(([]++[])++(([]++[])++(([]++[])++(([]++[])++([]++[]))))))))) (iF)
theorem Ax:au ["_law_web_here","_law_state","_law_line_here","_law_run","_law_waiting","_law_stand","_law_tie"] ["_law_web_here","_law_state","_law_line_here"] (ag uw):=⟨rfl,rfl,rfl,by decide+kernel,rfl,by decide+kernel,by decide+kernel⟩
theorem B2{P:Nl}{w:Nj}{K:Ng}{C:xM}{mg:Str→Option Kz}{base:Nk}{f:xM}{fd:Nx}(h:dA K mg "_law_due" uw f fd ["_law_web_here","_law_state","_law_line_here"])(T:cf mg){LC:xM}{LD:Nx}(K8:dA K mg "_law_stand_of" gr LC LD ["_law_web_here","_law_run"])(Le:aG P w K mg base cc 2 LC LD ["_law_web_here","_law_run"] (dw K 2 gb)){LF:xM}{LG:Nx}(KY:dA K mg "_law_row_text" gq LF LG ["_law_numbers"])(K9:aG P w K mg base cc 1 LF LG ["_law_numbers"] (dw K 1 eg)){LM:xM}{LN:Nx}(Ld:dA K mg "_law_askable" ic LM LN ["_law_web_here","_law_stand"])(Lj:aG P w K mg base cc 3 LM LN ["_law_web_here","_law_stand"] (dw K 2 l7)){MA:xM}{MB:Nx}(LU:dA K mg "_law_may" qQ MA MB ["_law_web_here","_law_stand","_law_tie"])(L0:aG P w K mg base cc 2 MA MB ["_law_web_here","_law_stand","_law_tie"] (dw K 3 jx)){Mp:xM}{Mq:Nx}(LO:dA K mg "_law_kept" pw Mp Mq ["_law_web_here","_law_run"])(LW:aG P w K mg base cc 1 Mp Mq ["_law_web_here","_law_run"] (dw K 2 oS)):aG P w K mg base cc 4 f fd ["_law_web_here","_law_state","_law_line_here"] (mT K C 3 (cE)):=by
  have nd:=Ax.nd
  exact h.F.okY Ax rfl rfl (fun cdv A outer s H E hr=>(@x6 _ _ _ _ _ _ _ _ _ _ _ 1 3 4 _ _ _ _ rfl rfl (@aU _ 1 _ _ (by rfl) (by first | exact Or.inl rfl | exact Or.inr (Or.inl rfl) | exact Or.inr (Or.inr rfl)) (by decide) (by decide)) nd rfl rfl (Or.inl rfl) (Or.inl rfl) (by trivial) (by trivial) (by rfl) (by rfl) (by rfl) (by rfl) (by rfl) (by rfl) (by rfl) (@af _ _ _ _ _ _ _ _ (@aM _ _ _ _ _ 5 _ _ nd rfl (Or.inl rfl) (@bA _ _ _ _ _ _ _ _ _ _ _ _ _ _ _ K8 Le (hr.mono (by decide)) ((¬0)∘((¬3)∘ac)) (by rfl) (by decide) (by rfl) (by rfl)) (by rfl) (by trivial))
      (@af _ _ _ _ _ _ _ _ (@cu _ _ _ _ _ _ _ _ _ _ _ (@aN _ _ _ _ _ _ _ _ _ (@gz _ _ _ rfl hr) (@ur _ _ _ _ _ _ _ _ _ _ (¬2) (@iX _ _) (@iY _ _ _ _ ae)) (@aI _ _ _ _ _) (aE _))
      (@af _ _ _ _ _ _ _ _ (@aM _ _ _ _ _ 6 _ _ nd rfl (Or.inl rfl) (@aV _ _ _ _ _ _ _ _ _ (@we _ _) (by rfl) T.b_int ((@ur _ _ _ _ _ _ _ _ _ _ (¬2) (@iY _ _ _ _ ae) (@iX _ _))∘ac) (by decide) (by decide) (by rfl) (by rfl)) (by rfl) (by trivial))
      (@af _ _ _ _ _ _ _ _ (@cu _ _ _ _ _ _ _ _ _ _ _ (@qf _ _ _ _ (@pj _ _ _ _ _ _ _ _ (@aN _ _ _ _ _ _ _ _ _ (@yz _ _ _ rfl hr) (¬4) (@cF _ _ _ _ _ ac) (aE _)) (@ko _ _ _ _ _ (@vL _ _ _ _ _ (@gn _ _ _ _ (@bA _ _ _ _ _ _ _ _ _ _ _ _ _ _ _ LU L0 (hr.mono (by decide)) ((¬0)∘((¬5)∘((¬6)∘ac))) (by rfl) (by decide) (by rfl) (by rfl)) (by intro _;rfl))))))
      (@am _ _ _ _ _ (@aw _ _ _ _ _ (@aI _ _ _ _ _)))
      (@aZ _ _))
      (@af _ _ _ _ _ _ _ _ (@fj _ _ _ _ _ (@gj _ _ _ _ _ _ _ _ _ rfl (¬4) ((¬6)∘ac) (by rfl) (by rfl) (by rfl) (by rfl) (by rfl)) (by rfl))
      (@am _ _ _ _ _ (@aw _ _ _ _ _ (@aI _ _ _ _ _))))))
      (@aZ _ _))
      (@af _ _ _ _ _ _ _ _ (@cu _ _ _ _ _ _ _ _ _ _ _ (@qf _ _ _ _ (@pj _ _ _ _ _ _ _ _ (@aN _ _ _ _ _ _ _ _ _ (@gz _ _ _ rfl hr) (¬2) (@aI _ _ _ _ _) (aE _)) (@ko _ _ _ _ _ (@aN _ _ _ _ _ _ _ _ _ (@gz _ _ _ rfl hr) (¬2) (@aI _ _ _ _ _) (aE _)))))
      (@af _ _ _ _ _ _ _ _ (@cu _ _ _ _ _ _ _ _ _ _ _ (@aN _ _ _ _ _ _ _ _ _ (@gz _ _ _ rfl hr) (¬4) (@cF _ _ _ _ _ ac) (aE _))
      (@am _ _ _ _ _ (@aw _ _ _ _ _ (@aI _ _ _ _ _)))
      (@aZ _ _))
      (@af _ _ _ _ _ _ _ _ (@aM _ _ _ _ _ 6 _ _ nd rfl (Or.inl rfl) (@Dx _ _ _ _ _ _ rfl (¬4) (by rfl) (by rfl)) (by rfl) (by trivial))
      (@af _ _ _ _ _ _ _ _ (@fj _ _ _ _ _ (@gj _ _ _ _ _ _ _ _ _ rfl (¬3) ((@bj _ _ _ _ _ _ ((¬6)∘((@pb _ _ _ _ _ _ _ _ _ (@gz _ _ _ rfl hr) (¬2) (@aI _ _ _ _ _) (aE _))∘ac)))∘ac) (by rfl) (by rfl) (by rfl) (by rfl) (by rfl)) (by rfl))
      (@am _ _ _ _ _ (@aw _ _ _ _ _ (@ck _ _ _ _ _ _ _ rfl (@cF _ _ _ _ _ ((@aI _ _ _ _ _)∘((@sI _ _ _ _ _ _ _ (@aI _ _ _ _ _) (@aV _ _ _ _ _ _ _ _ _ (@b_str _ _) (by rfl) T.b_str ((@ck _ _ _ _ _ _ _ rfl (@ck _ _ _ _ _ _ _ rfl (@ck _ _ _ _ _ _ _ rfl (¬0) ae (fun _ _=>rfl)) (¬6) (fun _ _=>rfl)) ae (fun _ _=>rfl))∘ac) (by decide) (by decide) (by rfl) (by rfl)))∘ac))) (@aV _ _ _ _ _ _ _ _ _ (@b_int _ _) (by rfl) T.b_int ((@pb _ _ _ _ _ _ _ _ _ (@gz _ _ _ rfl hr) (¬2) (@aI _ _ _ _ _) (aE _))∘ac) (by decide) (by decide) (by rfl) (by rfl)) (fun _ _=>rfl)))))))
      (@aZ _ _))
      (@af _ _ _ _ _ _ _ _ (@cu _ _ _ _ _ _ _ _ _ _ _ (@aN _ _ _ _ _ _ _ _ _ (@gz _ _ _ rfl hr) (¬2) (@aI _ _ _ _ _) (aE _))
      (@am _ _ _ _ _ (@aw _ _ _ _ _ (@bA _ _ _ _ _ _ _ _ _ _ _ _ _ _ _ KY K9 (hr.mono (by decide)) ((@bA _ _ _ _ _ _ _ _ _ _ _ _ _ _ _ Ld Lj (hr.mono (by decide)) ((¬0)∘((¬5)∘ac)) (by rfl) (by decide) (by rfl) (by rfl))∘ac) (by rfl) (by decide) (by rfl) (by rfl))))
      (@aZ _ _))
      (@af _ _ _ _ _ _ _ _ (@cu _ _ _ _ _ _ _ _ _ _ _ (@aN _ _ _ _ _ _ _ _ _ (@gz _ _ _ rfl hr) (¬2) (@aI _ _ _ _ _) (aE _))
      (@am _ _ _ _ _ (@aw _ _ _ _ _ (@sI _ _ _ _ _ _ _ (@sI _ _ _ _ _ _ _ (@bA _ _ _ _ _ _ _ _ _ _ _ _ _ _ _ KY K9 (hr.mono (by decide)) ((@dJ _ _ _ _ _ _ _ _ _ _ _ _ _ [] ["_law_tie","_law_truth"] rfl rfl (@eY _ _ _ _ _ rfl (¬3))
        (fun C s0 H0 fp=>(@gS _ _ _ _ _ _ _ _ rfl rfl (@bc _ _ _ _ _ _ _ _ (@aJ _ _ _ 0 _ (show OI (["_law_tie","_law_truth"]:List Str) by decide+kernel) rfl (Or.inl rfl) (by trivial)) (@bc _ _ _ _ _ _ _ _ (@aJ _ _ _ 1 _ (show OI (["_law_tie","_law_truth"]:List Str) by decide+kernel) rfl (Or.inl rfl) (by trivial)) (@eD _ _) (by rfl)) (by rfl)) (bu (bu gQ)) (by rfl) (by rfl))) (fun C s0 H0 fp=>(@iZ _ _ _ _ (@gn _ _ _ _ (¬1) (by intro _;rfl))))
        (fun C s0 H0 fp=>(¬0)) rfl (by rfl) (by intro _;rfl))∘ac) (by rfl) (by decide) (by rfl) (by rfl)) (@aI _ _ _ _ _)) (@aV _ _ _ _ _ _ _ _ _ (@b_str _ _) (by rfl) T.b_str ((@bA _ _ _ _ _ _ _ _ _ _ _ _ _ _ _ LO LW (hr.mono (by decide)) ((¬0)∘((¬3)∘ac)) (by rfl) (by decide) (by rfl) (by rfl))∘ac) (by decide) (by decide) (by rfl) (by rfl)))))
      (@aZ _ _))
      (@af _ _ _ _ _ _ _ _ (@cu _ _ _ _ _ _ _ _ _ _ _ (@qf _ _ _ _ (@vM _ _ _ _ _ _ _ _ (@aN _ _ _ _ _ _ _ _ _ (@gz _ _ _ rfl hr) (¬4) (@cF _ _ _ _ _ ac) (aE _)) (@sL _ _ _ _ _ (@aN _ _ _ _ _ _ _ _ _ (@gz _ _ _ rfl hr) (¬3) (@cF _ _ _ _ _ ac) (aE _)))))
      (@am _ _ _ _ _ (@aw _ _ _ _ _ (@aI _ _ _ _ _)))
      (@aZ _ _))
      (@af _ _ _ _ _ _ _ _ (@cu _ _ _ _ _ _ _ _ _ _ _ (@aN _ _ _ _ _ _ _ _ _ (@gz _ _ _ rfl hr) (¬4) (@cF _ _ _ _ _ ac) (aE _))
      (@am _ _ _ _ _ (@fj _ _ _ _ _ (@Dx _ _ _ _ _ _ rfl (¬3) (by rfl) (by rfl)) (by rfl)))
      (@aZ _ _))
      (@af _ _ _ _ _ _ _ _ (@fj _ _ _ _ _ (@Cv _ _ _ _ _ _ rfl (¬4) (by rfl) (by rfl)) (by rfl))
      (@am _ _ _ _ _ (@aw _ _ _ _ _ (@aI _ _ _ _ _)))))))))))))
noncomputable def rk:FS:=(aO (bi 3 (dr 1 bL (aa (ab 0) ah)))
    (aO (bi 4 (ay du (ab 2) (ay bv (ab 3) (aF (g1 gB) (aa (ab 2) ah)))))
    (aO (i4 (az (ay (bh true) (ab 4) (vC (.str ("ask":Str)))))
    (bg (ab 4))
    cL)
    (aO (i4 (az (ay (bh false) (ay du (ab 1) (vC (.int 1))) (cz ah)))
    (bg (vC (.str ("yes":Str))))
    cL)
    (bg (ay g_ (vC (.str ("ask ":Str))) (aF (g1 gC) (aa (ay bv (ay fP (ab 3) (vC (.int 64))) (aF (g1 gB) (aa (ay du (ab 1) (vC (.int 1))) ah))) ah))))))))
noncomputable def kg:FM:=ix 3 2 ([3]++([4]++(([]++[])++(([]++[])++[])))) rk
theorem wV:au ["_law_drawn","_law_web_here","_law_menu","_law_number","_law_word"] ["_law_drawn","_law_web_here","_law_menu"] (ag pz):=⟨rfl,rfl,rfl,by decide+kernel,rfl,by decide+kernel,by decide+kernel⟩
theorem BZ(h:dA K mg "_law_line" pz f fd ["_law_drawn","_law_web_here","_law_menu"])(T:cf mg)(zLnext:Cl P w K mg base "_law_next" ku ["_law_drawn"] 1 1 bL):aG P w K mg base cc 2 f fd ["_law_drawn","_law_web_here","_law_menu"] (dw K 3 kg):=by
  obtain⟨Mn,Mo,KO,KU⟩:=zLnext
  have nd:=wV.nd
  exact h.fn wV rfl rfl (fun cdv A outer s H E hr=>(@af _ _ _ _ _ _ _ _ (@aM _ _ _ _ _ 3 _ _ nd rfl (Or.inl rfl) (@bA _ _ _ _ _ _ _ _ _ _ _ _ _ _ _ KO KU (hr.mono (by decide)) ((¬0)∘ac) (by rfl) (by decide) (by rfl) (by rfl)) (by rfl) (by trivial))
      (@af _ _ _ _ _ _ _ _ (@aM _ _ _ _ _ 4 _ _ nd rfl (Or.inl rfl) (@ck _ _ _ _ _ _ _ rfl (¬2) (@bo _ _ _ _ _ _ _ (¬3) (@aV _ _ _ _ _ _ _ _ _ (@b_len _ _ rfl) (by rfl) T.b_len ((¬2)∘ac) (by decide) (by decide) (by rfl) (by rfl))) (fun _ _=>rfl)) (by rfl) (by trivial))
      (@af _ _ _ _ _ _ _ _ (@cu _ _ _ _ _ _ _ _ _ _ _ (@aN _ _ _ _ _ _ _ _ _ (@yz _ _ _ rfl hr) (¬4) (@aI _ _ _ _ _) (aE _))
      (@am _ _ _ _ _ (@aw _ _ _ _ _ (¬4)))
      (@aZ _ _))
      (@af _ _ _ _ _ _ _ _ (@cu _ _ _ _ _ _ _ _ _ _ _ (@aN _ _ _ _ _ _ _ _ _ (@gz _ _ _ rfl hr) (@ck _ _ _ _ _ _ _ rfl (¬1) ae (fun _ _=>rfl)) (@bj _ _ _ _ _ _ ac) (aE _))
      (@am _ _ _ _ _ (@aw _ _ _ _ _ (@aI _ _ _ _ _)))
      (@aZ _ _))
      (@am _ _ _ _ _ (@aw _ _ _ _ _ (@sI _ _ _ _ _ _ _ (@aI _ _ _ _ _) (@aV _ _ _ _ _ _ _ _ _ (@b_str _ _) (by rfl) T.b_str ((@bo _ _ _ _ _ _ _ (@jB _ _ _ _ _ _ _ (¬3) ae) (@aV _ _ _ _ _ _ _ _ _ (@b_len _ _ rfl) (by rfl) T.b_len ((@ck _ _ _ _ _ _ _ rfl (¬1) ae (fun _ _=>rfl))∘ac) (by decide) (by decide) (by rfl) (by rfl)))∘ac) (by decide) (by decide) (by rfl) (by rfl))))))))))
noncomputable def bX:XS:=(a9 (eQ (bU (ir Gn (bV 0 "waiting") (aC (vC .none))))
    (bH (aC (vC (.str ("NoAsk":Str)))))
    cG)
    (a9 (lH 2 (bV 0 "waiting"))
    (a9 (e6 0 "run" (ir cw (bV 0 "run") (aC (cz (aa (cz (aa (ab 2) (aa (ab 1) ah))) ah)))))
    (a9 (e6 0 "waiting" (aC (vC .none)))
    (bH (vV (f9 (az (ab 1))) (AX ("kept ":Str) (ir du (ir du (ir du (bV 0 "web") (aC (vC (.int 1)))) (aC (ab 2))) (aC (vC (.int 3))))) (aC (vC (.str ("gone":Str))))))))))
noncomputable def aP:MX:=dh 2 1 (([]++[])++([2]++([]++([]++[])))) (bX)
theorem e7:au ["self","truth","tie"] ["self","truth"] (ag cq):=⟨rfl,rfl,rfl,by decide+kernel,rfl,by decide+kernel,by decide+kernel⟩
theorem jA{P:Nl}{w:Nj}{K:Ng}{C:xM}{mg:Str→Option Kz}{base:Nk}{f:xM}{fd:Nx}(hF:sV K "take_answer" "Desk.take_answer" cq f fd)(T:cf mg)(cl:pY K C)(na_run:bx K C "run")(na_waiting:bx K C "waiting")(na_web:bx K C "web"):aG P w K mg base cc 1 f fd ["self","truth"] (mT K C 2 (aP)):=by
  have nd:=e7.nd
  exact hF.okY e7 rfl rfl (fun cdv A outer s H E hr=>(@aR _ _ _ _ _ _ _ _ _ (@gk _ _ _ _ _ _ _ _ _ _ _ _ (@nI _ _ _ _ _ _ _ _ _ _ (@GG _ _) (@bQ _ _ _ _ 0 _ _ _ rfl cl na_waiting (@aU _ 0 _ _ (by rfl) (by first | exact Or.inl rfl | exact Or.inr (Or.inl rfl) | exact Or.inr (Or.inr rfl)) (by decide) (by decide)) (by rfl)) (@aq _ _ _ _ _ (@eX _ _ _ _)) (aE _)) (@aY _ _ _ _ _ _ (@cm _ _ _ _ _ _ (@aq _ _ _ _ _ (@aI _ _ _ _ _)))) (@dM _ _ _))
       (@aR _ _ _ _ _ _ _ _ _ (@sJ _ _ _ _ _ _ 2 _ _ nd rfl (Or.inl rfl) (@bQ _ _ _ _ 0 _ _ _ rfl cl na_waiting (@aU _ 0 _ _ (by rfl) (by first | exact Or.inl rfl | exact Or.inr (Or.inl rfl) | exact Or.inr (Or.inr rfl)) (by decide) (by decide)) (by rfl)) (by rfl) (by trivial))
       (@aR _ _ _ _ _ _ _ _ _ (@gH _ _ _ _ _ _ 0 _ _ _ _ rfl cl na_run (@aU _ 0 _ _ (by rfl) (by first | exact Or.inl rfl | exact Or.inr (Or.inl rfl) | exact Or.inr (Or.inr rfl)) (by decide) (by decide)) (@Ft _ _ _ _ _ _ _ _ rfl (@bQ _ _ _ _ 0 _ _ _ rfl cl na_run (@aU _ 0 _ _ (by rfl) (by first | exact Or.inl rfl | exact Or.inr (Or.inl rfl) | exact Or.inr (Or.inr rfl)) (by decide) (by decide)) (by rfl)) (@aq _ _ _ _ _ (@bj _ _ _ _ _ _ ((@bj _ _ _ _ _ _ ((¬2)∘((¬1)∘ac)))∘ac)))) (by rfl))
       (@aR _ _ _ _ _ _ _ _ _ (@gH _ _ _ _ _ _ 0 _ _ _ _ rfl cl na_waiting (@aU _ 0 _ _ (by rfl) (by first | exact Or.inl rfl | exact Or.inr (Or.inl rfl) | exact Or.inr (Or.inr rfl)) (by decide) (by decide)) (@aq _ _ _ _ _ (@eX _ _ _ _)) (by rfl))
       (@aY _ _ _ _ _ _ (@cm _ _ _ _ _ _ (@qP _ _ _ _ _ _ _ _ _ _ (@h9 _ _ _ _ _ (@gn _ _ _ _ (¬1) (by intro _;rfl))) (@Hm _ _ _ _ _ _ _ _ _ _ (@z0 _ _ _ _ _ _ _ _ rfl (@z0 _ _ _ _ _ _ _ _ rfl (@z0 _ _ _ _ _ _ _ _ rfl (@bQ _ _ _ _ 0 _ _ _ rfl cl na_web (@aU _ 0 _ _ (by rfl) (by first | exact Or.inl rfl | exact Or.inr (Or.inl rfl) | exact Or.inr (Or.inr rfl)) (by decide) (by decide)) (by rfl)) (@aq _ _ _ _ _ ae) (fun _ _=>rfl)) (@aq _ _ _ _ _ (¬2)) (fun _ _=>rfl)) (@aq _ _ _ _ _ ae) (fun _ _=>rfl))) (@aq _ _ _ _ _ (@aI _ _ _ _ _))))))))))
noncomputable def kQ:XS:=(a9 (eQ (bU (ir kb (bV 0 "waiting") (aC (vC .none))))
    (e6 0 "waiting" (aC (vC .none)))
    (eQ (bU (ir Dg (sT (g1 gB) (bT (bV 0 "run") ip)) (aC (vC (.int 0)))))
    (e6 0 "run" (Ge (bV 0 "run") none (some (-1))))
    (bH (aC (vC (.str ("NoAsk":Str)))))))
    (bH (aC (vC (.str ("back":Str))))))
noncomputable def dI:MX:=dh 1 0 (([]++([]++[]))++[]) (kQ)
theorem gK:au ["self"] ["self"] (ag cM):=⟨rfl,rfl,rfl,by decide+kernel,rfl,by decide+kernel,by decide+kernel⟩
theorem ki{P:Nl}{w:Nj}{K:Ng}{C:xM}{mg:Str→Option Kz}{base:Nk}{f:xM}{fd:Nx}(hF:sV K "take_back" "Desk.take_back" cM f fd)(T:cf mg)(cl:pY K C)(na_run:bx K C "run")(na_waiting:bx K C "waiting"):aG P w K mg base cc 1 f fd ["self"] (mT K C 1 (dI)):=by
  have nd:=gK.nd
  exact hF.okY gK rfl rfl (fun cdv A outer s H E hr=>(@aR _ _ _ _ _ _ _ _ _ (@gk _ _ _ _ _ _ _ _ _ _ _ _ (@nI _ _ _ _ _ _ _ _ _ _ (@rB _ _) (@bQ _ _ _ _ 0 _ _ _ rfl cl na_waiting (@aU _ 0 _ _ (by rfl) (by first | exact Or.inl rfl | exact Or.inr (Or.inl rfl) | exact Or.inr (Or.inr rfl)) (by decide) (by decide)) (by rfl)) (@aq _ _ _ _ _ (@eX _ _ _ _)) (aE _)) (@aY _ _ _ _ _ _ (@gH _ _ _ _ _ _ 0 _ _ _ _ rfl cl na_waiting (@aU _ 0 _ _ (by rfl) (by first | exact Or.inl rfl | exact Or.inr (Or.inl rfl) | exact Or.inr (Or.inr rfl)) (by decide) (by decide)) (@aq _ _ _ _ _ (@eX _ _ _ _)) (by rfl))) (@aY _ _ _ _ _ _ (@gk _ _ _ _ _ _ _ _ _ _ _ _ (@nI _ _ _ _ _ _ _ _ _ _ (@yy _ _) (@Fu _ _ _ _ _ _ _ _ _ (@b_len _ _ rfl) (by rfl) T.b_len (@j0 _ _ _ _ _ _ _ (@bQ _ _ _ _ 0 _ _ _ rfl cl na_run (@aU _ 0 _ _ (by rfl) (by first | exact Or.inl rfl | exact Or.inr (Or.inl rfl) | exact Or.inr (Or.inr rfl)) (by decide) (by decide)) (by rfl)) (@lB _ _ _) (by rfl)) (by decide) (by decide) _ (by rfl) (by rfl)) (@aq _ _ _ _ _ ae) (aE _)) (@aY _ _ _ _ _ _ (@gH _ _ _ _ _ _ 0 _ _ _ _ rfl cl na_run (@aU _ 0 _ _ (by rfl) (by first | exact Or.inl rfl | exact Or.inr (Or.inl rfl) | exact Or.inr (Or.inr rfl)) (by decide) (by decide)) (@z4 _ _ _ _ _ _ _ _ _ none (some (-1)) rfl (@bQ _ _ _ _ 0 _ _ _ rfl cl na_run (@aU _ 0 _ _ (by rfl) (by first | exact Or.inl rfl | exact Or.inr (Or.inl rfl) | exact Or.inr (Or.inr rfl)) (by decide) (by decide)) (by rfl)) (@iX _ _) (@iY _ _ _ _ (@Ho _ _ _ _ _ ae))) (by rfl))) (@aY _ _ _ _ _ _ (@cm _ _ _ _ _ _ (@aq _ _ _ _ _ (@aI _ _ _ _ _)))))))
       (@aY _ _ _ _ _ _ (@cm _ _ _ _ _ _ (@aq _ _ _ _ _ (@aI _ _ _ _ _))))))
noncomputable def cJ:XS:=(a9 (eQ (vY (bU (ir kb (bV 0 "waiting") (aC (vC .none)))) (jd (bU (nv 3 cK (bT (bV 0 "web") (bT (nv 2 bG (bT (bV 0 "web") (bT (bV 0 "run") ip))) (bT (aC (ab 1)) ip)))))))
    (bH (aC (vC (.str ("NoAsk":Str)))))
    cG)
    (a9 (e6 0 "waiting" (aC (ab 1)))
    (bH (aC (vC (.str ("asked":Str)))))))
noncomputable def ba:MX:=dh 2 0 (([]++[])++([]++[])) (cJ)
theorem ij:au ["self","tie"] ["self","tie"] (ag c_):=⟨rfl,rfl,rfl,by decide+kernel,rfl,by decide+kernel,by decide+kernel⟩
theorem lu{P:Nl}{w:Nj}{K:Ng}{C:xM}{mg:Str→Option Kz}{base:Nk}{f:xM}{fd:Nx}(hF:sV K "take_ask" "Desk.take_ask" c_ f fd)(T:cf mg){Lw:xM}{Lx:Nx}(K1:dA K mg "may_ask" fH Lw Lx ["web","stand","tie"])(K7:aG P w K mg base cc 4 Lw Lx ["web","stand","tie"] (dw K 3 cK)){K4:xM}{K5:Nx}(KJ:dA K mg "stand_of_run" b7 K4 K5 ["web","run"])(KL:aG P w K mg base cc 3 K4 K5 ["web","run"] (dw K 2 bG))(cl:pY K C)(na_run:bx K C "run")(na_waiting:bx K C "waiting")(na_web:bx K C "web"):aG P w K mg base cc 5 f fd ["self","tie"] (mT K C 2 (ba)):=by
  have nd:=ij.nd
  exact hF.okY ij rfl rfl (fun cdv A outer s H E hr=>(@aR _ _ _ _ _ _ _ _ _ (@gk _ _ _ _ _ _ _ _ _ _ _ _ (@Ht _ _ _ _ _ (@FC _ _ _ _ _ _ _ _ _ (@nI _ _ _ _ _ _ _ _ _ _ (@rB _ _) (@bQ _ _ _ _ 0 _ _ _ rfl cl na_waiting (@aU _ 0 _ _ (by rfl) (by first | exact Or.inl rfl | exact Or.inr (Or.inl rfl) | exact Or.inr (Or.inr rfl)) (by decide) (by decide)) (by rfl)) (@aq _ _ _ _ _ (@eX _ _ _ _)) (aE _)) (@Cz _ _ _ _ _ _ (@nJ _ _ _ _ _ _ (@nK _ _ _ _ _ (@Fv _ _ _ _ _ _ _ _ _ _ _ _ _ _ _ _ K1 K7 (hr.mono (by decide)) (@j0 _ _ _ _ _ _ _ (@bQ _ _ _ _ 0 _ _ _ rfl cl na_web (@aU _ 0 _ _ (by rfl) (by first | exact Or.inl rfl | exact Or.inr (Or.inl rfl) | exact Or.inr (Or.inr rfl)) (by decide) (by decide)) (by rfl)) (@j0 _ _ _ _ _ _ _ (@Fv _ _ _ _ _ _ _ _ _ _ _ _ _ _ _ _ KJ KL (hr.mono (by decide)) (@j0 _ _ _ _ _ _ _ (@bQ _ _ _ _ 0 _ _ _ rfl cl na_web (@aU _ 0 _ _ (by rfl) (by first | exact Or.inl rfl | exact Or.inr (Or.inl rfl) | exact Or.inr (Or.inr rfl)) (by decide) (by decide)) (by rfl)) (@j0 _ _ _ _ _ _ _ (@bQ _ _ _ _ 0 _ _ _ rfl cl na_run (@aU _ 0 _ _ (by rfl) (by first | exact Or.inl rfl | exact Or.inr (Or.inl rfl) | exact Or.inr (Or.inr rfl)) (by decide) (by decide)) (by rfl)) (@lB _ _ _) (by rfl)) (by rfl)) (by rfl) (by decide) (by rfl) (by rfl)) (@j0 _ _ _ _ _ _ _ (@aq _ _ _ _ _ (¬1)) (@lB _ _ _) (by rfl)) (by rfl)) (by rfl)) (by rfl) (by decide) (by rfl) (by rfl)) (by intro _;rfl)))))) (@aY _ _ _ _ _ _ (@cm _ _ _ _ _ _ (@aq _ _ _ _ _ (@aI _ _ _ _ _)))) (@dM _ _ _))
       (@aR _ _ _ _ _ _ _ _ _ (@gH _ _ _ _ _ _ 0 _ _ _ _ rfl cl na_waiting (@aU _ 0 _ _ (by rfl) (by first | exact Or.inl rfl | exact Or.inr (Or.inl rfl) | exact Or.inr (Or.inr rfl)) (by decide) (by decide)) (@aq _ _ _ _ _ (¬1)) (by rfl))
       (@aY _ _ _ _ _ _ (@cm _ _ _ _ _ _ (@aq _ _ _ _ _ (@aI _ _ _ _ _)))))))
def Hs:List Str:=["may","best","bound","kept"]
noncomputable def qs:List (Str × FM):=[("may",kh),("kept",cD)]
noncomputable def eF:XS:=(a9 (eQ (f9 (ml (az (uS (xE "str") (ab 1)))))
    (bH (aC (vC (.str ("NoWord":Str)))))
    cG)
    (a9 (eQ (f9 (az (ay (uU false) (ab 1) (cz (aa (vC (.str ("yes":Str))) (aa (vC (.str ("no":Str))) ah))))))
    (bH (bJ 2 aP (lO 0 "take_answer" (cy (aC (ay (bh false) (ab 1) (vC (.str ("yes":Str))))) dQ))))
    cG)
    (a9 (eQ (f9 (az (ay (bh false) (ab 1) (vC (.str ("back":Str))))))
    (bH (bJ 1 dI (lO 0 "take_back" dQ)))
    cG)
    (a9 (eQ (f9 (AI Hs (ab 1)))
    (wR 0 1 2 qs)
    cG)
    (a9 (lH 3 (nv 2 dG (bT (bV 0 "web") (bT (aC (ab 1)) ip))))
    (bH (vV (f9 (az (ay Gn (ab 3) (vC .none)))) (aC (vC (.str ("NoWord":Str)))) (bJ 2 ba (lO 0 "take_ask" (cy (aC (ab 3)) dQ))))))))))
noncomputable def br:MX:=dh 2 2 (([]++[])++(([]++[])++(([]++[])++(([2]++[])++([3]++[]))))) (eF)
theorem mO:au ["self","line","question","tie"] ["self","line"] (ag i5):=⟨rfl,rfl,rfl,by decide+kernel,rfl,by decide+kernel,by decide+kernel⟩
theorem sA{P:Nl}{w:Nj}{K:Ng}{C:xM}{mg:Str→Option Kz}{base:Nk}{f:xM}{fd:Nx}(hF:sV K "say" "Desk.say" i5 f fd)(T:cf mg){Lm:xM}{Lo:Nx}(KR:dA K mg "tie_to_ask" dO Lm Lo ["web","line"])(K3:aG P w K mg base cc 2 Lm Lo ["web","line"] (dw K 2 dG)){f_Desk_take_answer:xM}{e_Desk_take_answer:Nx}(me_Desk_take_answer:lS K C "take_answer" f_Desk_take_answer)(B_Desk_take_answer:dz K e_Desk_take_answer ["self","truth"] [])(G_Desk_take_answer:aG P w K mg base cc 1 f_Desk_take_answer e_Desk_take_answer ["self","truth"] (mT K C 2 aP)){f_Desk_take_back:xM}{e_Desk_take_back:Nx}(me_Desk_take_back:lS K C "take_back" f_Desk_take_back)(B_Desk_take_back:dz K e_Desk_take_back ["self"] [])(G_Desk_take_back:aG P w K mg base cc 1 f_Desk_take_back e_Desk_take_back ["self"] (mT K C 1 dI)){Lf:xM}{LH:Nx}(KZ:dA K mg "may_line" gu Lf LH ["web","run"])(Lg:aG P w K mg base cc 6 Lf LH ["web","run"] (dw K 2 kh)){La:xM}{Lz:Nx}(KP:dA K mg "kept_line" eR La Lz ["web","run"])(Lb:aG P w K mg base cc 3 La Lz ["web","run"] (dw K 2 cD)){f_Desk_take_ask:xM}{e_Desk_take_ask:Nx}(me_Desk_take_ask:lS K C "take_ask" f_Desk_take_ask)(B_Desk_take_ask:dz K e_Desk_take_ask ["self","tie"] [])(G_Desk_take_ask:aG P w K mg base cc 5 f_Desk_take_ask e_Desk_take_ask ["self","tie"] (mT K C 2 ba))(cl:pY K C)(na_run:bx K C "run")(na_web:bx K C "web"){qa:xM}{ms:List (Str × xM)}(TQ:Gk K w qa ms)(hks:ms.map (·.1)=Hs)(mQ:mg "QUESTIONS"=some (.ref qa))(a_may:ms.lookup ("may":Str)=some Lf)(a_kept:ms.lookup ("kept":Str)=some La):aG P w K mg base cc 7 f fd ["self","line"] (mT K C 2 (br)):=by
  have nd:=mO.nd
  exact hF.okY mO rfl rfl (fun cdv A outer s H E hr=>have hQ:∀(u:Str) (m:FM),qs.lookup u=some m→∃f,ms.lookup u=some f∧IR _ 6 f m:=(fun u m hm=>by
      unfold qs at hm
      rw [NU] at hm
      by_cases c0:u="may"
      · subst c0;rw [show(("may":Str)=="may")=true from by decide] at hm;cases hm;exact⟨Lf,a_may,_,_,Lg.mono (by decide),KZ.b,KZ.F.kp⟩
      rw [show(u=="may")=false from beq_eq_false_iff_ne.mpr c0] at hm
      rw [NU] at hm
      by_cases c1:u="kept"
      · subst c1;rw [show(("kept":Str)=="kept")=true from by decide] at hm;cases hm;exact⟨La,a_kept,_,_,Lb.mono (by decide),KP.b,KP.F.kp⟩
      rw [show(u=="kept")=false from beq_eq_false_iff_ne.mpr c1] at hm
      cases hm)
    (@aR _ _ _ _ _ _ _ _ _ (@gk _ _ _ _ _ _ _ _ _ _ _ _ (@h9 _ _ _ _ _ (@vL _ _ _ _ _ (@gn _ _ _ _ (@Dw _ _ _ _ _ _ _ _ "str" rfl (by decide) rfl T.b_isinstance rfl T.b_str Rj (by decide) (by decide) (¬1) (by rfl) (by rfl)) (by intro _;rfl)))) (@aY _ _ _ _ _ _ (@cm _ _ _ _ _ _ (@aq _ _ _ _ _ (@aI _ _ _ _ _)))) (@dM _ _ _))
       (@aR _ _ _ _ _ _ _ _ _ (@gk _ _ _ _ _ _ _ _ _ _ _ _ (@h9 _ _ _ _ _ (@aN _ _ _ _ _ _ _ _ _ (@xn _ _ _ rfl hr) (¬1) (@bj _ _ _ _ _ _ ((@aI _ _ _ _ _)∘((@aI _ _ _ _ _)∘ac))) (by with_unfolding_all rfl))) (@aY _ _ _ _ _ _ (@cm _ _ _ _ _ _ (@sG _ _ _ _ _ _ _ _ _ 0 _ _ _ _ _ _ _ _ _ rfl (@aU _ 0 _ _ (by rfl) (by first | exact Or.inl rfl | exact Or.inr (Or.inl rfl) | exact Or.inr (Or.inr rfl)) (by decide) (by decide)) cl me_Desk_take_answer G_Desk_take_answer (hr.mono (by decide)) B_Desk_take_answer (@h_ _ _ _ _ _ _ _ (@aq _ _ _ _ _ (@pb _ _ _ _ _ _ _ _ _ (@gz _ _ _ rfl hr) (¬1) (@aI _ _ _ _ _) (aE _))) (@gJ _ _ _) (by rfl)) (by rfl) (by rfl) (by rfl)))) (@dM _ _ _))
       (@aR _ _ _ _ _ _ _ _ _ (@gk _ _ _ _ _ _ _ _ _ _ _ _ (@h9 _ _ _ _ _ (@aN _ _ _ _ _ _ _ _ _ (@gz _ _ _ rfl hr) (¬1) (@aI _ _ _ _ _) (aE _))) (@aY _ _ _ _ _ _ (@cm _ _ _ _ _ _ (@z3 _ _ _ _ _ _ 0 _ _ _ _ _ _ _ _ _ rfl (@aU _ 0 _ _ (by rfl) (by first | exact Or.inl rfl | exact Or.inr (Or.inl rfl) | exact Or.inr (Or.inr rfl)) (by decide) (by decide)) cl me_Desk_take_back G_Desk_take_back (hr.mono (by decide)) B_Desk_take_back (by rfl)))) (@dM _ _ _))
       (@aR _ _ _ _ _ _ _ _ _ (@gk _ _ _ _ _ _ _ _ _ _ _ _ (@h9 _ _ _ _ _ (@FB _ _ _ _ _ _ _ _ _ _ rfl TQ hks (¬1) rfl mQ (by decide) (by with_unfolding_all rfl))) (@Ac _ _ _ _ _ _ _ _ 0 1 2 _ _ _ _ _ _ _ _ _ _ _ _ rfl TQ hr hQ rfl mQ (by decide) (@aU _ 1 _ _ (by rfl) (by first | exact Or.inl rfl | exact Or.inr (Or.inl rfl) | exact Or.inr (Or.inr rfl)) (by decide) (by decide)) nd rfl (Or.inl rfl) (by rfl) (by trivial) (@aU _ 2 _ _ (by rfl) (by first | exact Or.inl rfl | exact Or.inr (Or.inl rfl) | exact Or.inr (Or.inr rfl)) (by decide) (by decide)) (@j0 _ _ _ _ _ _ _ (@bQ _ _ _ _ 0 _ _ _ rfl cl na_web (@aU _ 0 _ _ (by rfl) (by first | exact Or.inl rfl | exact Or.inr (Or.inl rfl) | exact Or.inr (Or.inr rfl)) (by decide) (by decide)) (by rfl)) (@j0 _ _ _ _ _ _ _ (@bQ _ _ _ _ 0 _ _ _ rfl cl na_run (@aU _ 0 _ _ (by rfl) (by first | exact Or.inl rfl | exact Or.inr (Or.inl rfl) | exact Or.inr (Or.inr rfl)) (by decide) (by decide)) (by rfl)) (@lB _ _ _) (by rfl)) (by rfl)) (by rfl) (by rfl)) (@dM _ _ _))
       (@aR _ _ _ _ _ _ _ _ _ (@sJ _ _ _ _ _ _ 3 _ _ nd rfl (Or.inl rfl) (@Fv _ _ _ _ _ _ _ _ _ _ _ _ _ _ _ _ KR K3 (hr.mono (by decide)) (@j0 _ _ _ _ _ _ _ (@bQ _ _ _ _ 0 _ _ _ rfl cl na_web (@aU _ 0 _ _ (by rfl) (by first | exact Or.inl rfl | exact Or.inr (Or.inl rfl) | exact Or.inr (Or.inr rfl)) (by decide) (by decide)) (by rfl)) (@j0 _ _ _ _ _ _ _ (@aq _ _ _ _ _ (¬1)) (@lB _ _ _) (by rfl)) (by rfl)) (by rfl) (by decide) (by rfl) (by rfl)) (by rfl) (by trivial))
       (@aY _ _ _ _ _ _ (@cm _ _ _ _ _ _ (@qP _ _ _ _ _ _ _ _ _ _ (@h9 _ _ _ _ _ (@aN _ _ _ _ _ _ _ _ _ (@GG _ _) (¬3) (@eX _ _ _ _) (aE _))) (@aq _ _ _ _ _ (@aI _ _ _ _ _)) (@sG _ _ _ _ _ _ _ _ _ 0 _ _ _ _ _ _ _ _ _ rfl (@aU _ 0 _ _ (by rfl) (by first | exact Or.inl rfl | exact Or.inr (Or.inl rfl) | exact Or.inr (Or.inr rfl)) (by decide) (by decide)) cl me_Desk_take_ask G_Desk_take_ask (hr.mono (by decide)) B_Desk_take_ask (@h_ _ _ _ _ _ _ _ (@aq _ _ _ _ _ (¬3)) (@gJ _ _ _) (by rfl)) (by rfl) (by rfl) (by rfl)))))))))))
noncomputable def wf:XS:=(a9 (lH 3 (bJ 2 br (lO 0 "say" (cy (aC (ab 1)) dQ))))
    (bH (aC (jH (uS (xE "str") (ab 3)) (ay (bh false) (ab 3) (ab 2))))))
noncomputable def eB:MX:=dh 3 1 ([3]++[]) (wf)
theorem wY:au ["_law_desk","_law_line_here","_law_due_here","_law_found"] ["_law_desk","_law_line_here","_law_due_here"] (ag pB):=⟨rfl,rfl,rfl,by decide+kernel,rfl,by decide+kernel,by decide+kernel⟩
theorem zG{P:Nl}{w:Nj}{K:Ng}{C:xM}{mg:Str→Option Kz}{base:Nk}{f:xM}{fd:Nx}(h:dA K mg "_law_told" pB f fd ["_law_desk","_law_line_here","_law_due_here"])(T:cf mg){f_Desk_say:xM}{e_Desk_say:Nx}(me_Desk_say:lS K C "say" f_Desk_say)(B_Desk_say:dz K e_Desk_say ["self","line"] [])(G_Desk_say:aG P w K mg base cc 7 f_Desk_say e_Desk_say ["self","line"] (mT K C 2 br))(cl:pY K C):aG P w K mg base cc 8 f fd ["_law_desk","_law_line_here","_law_due_here"] (mT K C 3 (eB)):=by
  have nd:=wY.nd
  exact h.F.okY wY rfl rfl (fun cdv A outer s H E hr=>(@aR _ _ _ _ _ _ _ _ _ (@sJ _ _ _ _ _ _ 3 _ _ nd rfl (Or.inl rfl) (@sG _ _ _ _ _ _ _ _ _ 0 _ _ _ _ _ _ _ _ _ rfl (@aU _ 0 _ _ (by rfl) (by first | exact Or.inl rfl | exact Or.inr (Or.inl rfl) | exact Or.inr (Or.inr rfl)) (by decide) (by decide)) cl me_Desk_say G_Desk_say (hr.mono (by decide)) B_Desk_say (@h_ _ _ _ _ _ _ _ (@aq _ _ _ _ _ (¬1)) (@gJ _ _ _) (by rfl)) (by rfl) (by rfl) (by rfl)) (by rfl) (by trivial))
       (@aY _ _ _ _ _ _ (@cm _ _ _ _ _ _ (@aq _ _ _ _ _ (@z7 _ _ _ _ _ _ _ _ (@Dw _ _ _ _ _ _ _ _ "str" rfl (by decide) rfl T.b_isinstance rfl T.b_str Rj (by decide) (by decide) (¬3) (by rfl) (by rfl)) (@z_ _ _ _ _ _ _ (@pb _ _ _ _ _ _ _ _ _ (@gz _ _ _ rfl hr) (¬3) (¬2) (aE _)))))))))
noncomputable def g9:XS:=(a9 (e6 0 "web" (aC (ab 1)))
    (a9 (e6 0 "run" (aC (cz ah)))
    (e6 0 "waiting" (aC (vC .none)))))
noncomputable def bD:MX:=dh 2 0 ([]++([]++[])) (g9)
theorem ii:au ["self","web"] ["self","web"] (ag c9):=⟨rfl,rfl,rfl,by decide+kernel,rfl,by decide+kernel,by decide+kernel⟩
theorem lr{P:Nl}{w:Nj}{K:Ng}{C:xM}{mg:Str→Option Kz}{base:Nk}{f:xM}{fd:Nx}(hF:sV K "__init__" "Desk.__init__" c9 f fd)(T:cf mg)(cl:pY K C)(na_run:bx K C "run")(na_waiting:bx K C "waiting")(na_web:bx K C "web"):aG P w K mg base cc 1 f fd ["self","web"] (mT K C 2 (bD)):=by
  have nd:=ii.nd
  exact hF.okY ii rfl rfl (fun cdv A outer s H E hr=>(@aR _ _ _ _ _ _ _ _ _ (@gH _ _ _ _ _ _ 0 _ _ _ _ rfl cl na_web (@aU _ 0 _ _ (by rfl) (by first | exact Or.inl rfl | exact Or.inr (Or.inl rfl) | exact Or.inr (Or.inr rfl)) (by decide) (by decide)) (@aq _ _ _ _ _ (¬1)) (by rfl))
       (@aR _ _ _ _ _ _ _ _ _ (@gH _ _ _ _ _ _ 0 _ _ _ _ rfl cl na_run (@aU _ 0 _ _ (by rfl) (by first | exact Or.inl rfl | exact Or.inr (Or.inl rfl) | exact Or.inr (Or.inr rfl)) (by decide) (by decide)) (@aq _ _ _ _ _ (@bj _ _ _ _ _ _ ac)) (by rfl))
       (@aY _ _ _ _ _ _ (@gH _ _ _ _ _ _ 0 _ _ _ _ rfl cl na_waiting (@aU _ 0 _ _ (by rfl) (by first | exact Or.inl rfl | exact Or.inr (Or.inl rfl) | exact Or.inr (Or.inr rfl)) (by decide) (by decide)) (@aq _ _ _ _ _ (@eX _ _ _ _)) (by rfl))))))
noncomputable def Je:FI:=(cZ (aa (vC (.int 40)) ah))
noncomputable def GB:XS:=(a9 (gp [7] (bi 7 (dr 3 kg (aa (ab 1) (aa (ab 3) (aa (eU (aa (vC (.str ("ask":Str))) (aa (vC (.str ("yes":Str))) (aa (vC (.str ("ask":Str))) (aa (vC (.str ("yes":Str))) (aa (vC (.str ("no":Str))) ah)))))) ah))))))
    (a9 (eQ (jd (bU (bJ 3 eB (qj 4 (cy (aC (ab 7)) (cy (bJ 3 cE (cy (aC (ab 3)) (qj 5 (cy (aC (ab 7)) dQ)))) dQ))))))
    (bH (aC (vC (.bool false))))
    cG)
    (eQ (jd (bU (bJ 3 eB (qj 4 (cy (aC (vC (.str ("kept":Str)))) (cy (bJ 3 cE (cy (aC (ab 3)) (qj 5 (cy (aC (vC (.str ("kept":Str)))) dQ)))) dQ))))))
    (bH (aC (vC (.bool false))))
    cG)))
noncomputable def Jf:FI:=(cZ (aa (vC (.int 3)) ah))
noncomputable def GC:XS:=(a9 (gp [3] (bi 3 (dr 3 qJ (aa (ab 1) (aa (vC (.int 12)) (aa (vC (.int 16)) ah))))))
    (a9 (As 4 bD (aC (ab 3)))
    (a9 (Au 5)
    (a9 (eQ (jd (bU (bJ 3 eB (qj 4 (cy (aC (vC (.str ("kept":Str)))) (cy (aC (vC (.str ("none 0":Str)))) dQ))))))
    (bH (aC (vC (.bool false))))
    cG)
    (mL [6] Je (aj 6) GB)))))
noncomputable def rq:XS:=(a9 (gp [1] (bi 1 (dr 1 jP (aa (ab 0) ah))))
    (a9 (mL [2] Jf (aj 2) GC)
    (bH (aC (vC (.bool true))))))
noncomputable def l_:MX:=dh 1 7 ([1]++(([2]++([3]++([4]++([5]++(([]++[])++([6]++([7]++(([]++[])++([]++[])))))))))++[])) (rq)
theorem AC:au ["_law_script","_law_drawn","_law_turn","_law_web_here","_law_desk","_law_state","_law_again","_law_line_here"] ["_law_script"] (ag pF):=⟨rfl,rfl,rfl,by decide+kernel,rfl,by decide+kernel,by decide+kernel⟩
theorem B3{P:Nl}{w:Nj}{K:Ng}{C:xM}{mg:Str→Option Kz}{base:Nk}{f:xM}{fd:Nx}(h:dA K mg "law" pF f fd ["_law_script"])(T:cf mg){L_:xM}{L':Nx}(LA:dA K mg "_law_draws" lE L_ L' ["_law_script"])(LK:aG P w K mg base cc 2 L_ L' ["_law_script"] (dw K 1 jP)){MI:xM}{MJ:Nx}(Ma:dA K mg "_law_web" uA MI MJ ["_law_drawn","_law_most","_law_ties_here"])(Mi:aG P w K mg base cc 5 MI MJ ["_law_drawn","_law_most","_law_ties_here"] (dw K 3 qJ)){f_Desk___init__:xM}{e_Desk___init__:Nx}(MK:Mk K C f_Desk___init__)(mC:mg "Desk"=some (.ref C))(B_Desk___init__:dz K e_Desk___init__ ["self","web"] [])(G_Desk___init__:aG P w K mg base cc 1 f_Desk___init__ e_Desk___init__ ["self","web"] (mT K C 2 bD)){Mr:xM}{Ms:Nx}(LI:dA K mg "_law_told" pB Mr Ms ["_law_desk","_law_line_here","_law_due_here"])(LP:aG P w K mg base cc 8 Mr Ms ["_law_desk","_law_line_here","_law_due_here"] (mT K C 3 eB)){Mt:xM}{Mu:Nx}(LQ:dA K mg "_law_line" pz Mt Mu ["_law_drawn","_law_web_here","_law_menu"])(LX:aG P w K mg base cc 2 Mt Mu ["_law_drawn","_law_web_here","_law_menu"] (dw K 3 kg)){ML:xM}{MN:Nx}(Mb:dA K mg "_law_due" uw ML MN ["_law_web_here","_law_state","_law_line_here"])(Mj:aG P w K mg base cc 4 ML MN ["_law_web_here","_law_state","_law_line_here"] (mT K C 3 cE))(cl:pY K C):aG P w K mg base cc 9 f fd ["_law_script"] (mT K C 1 (l_)):=by
  have nd:=AC.nd
  exact h.F.okY AC rfl rfl (fun cdv A outer s H E hr=>(@aR _ _ _ _ _ _ _ _ _ (@pe _ _ _ _ _ _ (@aM _ _ _ _ _ 1 _ _ nd rfl (Or.inl rfl) (@bA _ _ _ _ _ _ _ _ _ _ _ _ _ _ _ LA LK (hr.mono (by decide)) ((¬0)∘ac) (by rfl) (by decide) (by rfl) (by rfl)) (by rfl) (by trivial)))
       (@aR _ _ _ _ _ _ _ _ _ (@wL _ _ _ _ _ _ _ _ _ _ _ _ OY rfl (@dq _ _ _ _ _ _ _ rfl T.b_range (ae∘ac) (by rfl)) (@aJ _ _ _ 2 _ nd rfl (Or.inl rfl) (by trivial)) (@aR _ _ _ _ _ _ _ _ _ (@pe _ _ _ _ _ _ (@aM _ _ _ _ _ 3 _ _ nd rfl (Or.inl rfl) (@bA _ _ _ _ _ _ _ _ _ _ _ _ _ _ _ Ma Mi (hr.mono (by decide)) ((¬1)∘(ae∘(ae∘ac))) (by rfl) (by decide) (by rfl) (by rfl)) (by rfl) (by trivial)))
       (@aR _ _ _ _ _ _ _ _ _ (@Ab _ _ _ _ _ _ _ 4 _ _ _ _ _ _ _ _ _ rfl MK G_Desk___init__ (hr.mono (by decide)) rfl mC B_Desk___init__ (@aq _ _ _ _ _ (¬3)) nd rfl (Or.inl rfl) (by rfl) (by decide) (by rfl) (by rfl) (by rfl) (by trivial))
       (@aR _ _ _ _ _ _ _ _ _ (@x5 _ _ _ _ 5 _ _ _ _ _ _ nd rfl (Or.inl rfl) (by rfl) (by trivial))
       (@aR _ _ _ _ _ _ _ _ _ (@gk _ _ _ _ _ _ _ _ _ _ _ _ (@nJ _ _ _ _ _ _ (@nK _ _ _ _ _ (@lA _ _ _ _ _ _ _ _ _ _ _ _ _ _ _ _ LI LP (hr.mono (by decide)) (@uu _ _ _ _ _ _ 4 (@aU _ 4 _ _ (by rfl) (by first | exact Or.inl rfl | exact Or.inr (Or.inl rfl) | exact Or.inr (Or.inr rfl)) (by decide) (by decide)) (@h_ _ _ _ _ _ _ _ (@aq _ _ _ _ _ (@aI _ _ _ _ _)) (@h_ _ _ _ _ _ _ _ (@aq _ _ _ _ _ (@aI _ _ _ _ _)) (@gJ _ _ _) (by rfl)) (by rfl)) (by rfl)) (by rfl) (by decide) (by rfl) (by rfl)) (by intro _;rfl))) (@aY _ _ _ _ _ _ (@cm _ _ _ _ _ _ (@aq _ _ _ _ _ (@mK _ _ _ _ _)))) (@dM _ _ _))
       (@aY _ _ _ _ _ _ (@wL _ _ _ _ _ _ _ _ _ _ _ _ OY rfl (@dq _ _ _ _ _ _ _ rfl T.b_range (ae∘ac) (by rfl)) (@aJ _ _ _ 6 _ nd rfl (Or.inl rfl) (by trivial)) (@aR _ _ _ _ _ _ _ _ _ (@pe _ _ _ _ _ _ (@aM _ _ _ _ _ 7 _ _ nd rfl (Or.inl rfl) (@bA _ _ _ _ _ _ _ _ _ _ _ _ _ _ _ LQ LX (hr.mono (by decide)) ((¬1)∘((¬3)∘((@cF _ _ _ _ _ ((@aI _ _ _ _ _)∘((@aI _ _ _ _ _)∘((@aI _ _ _ _ _)∘((@aI _ _ _ _ _)∘((@aI _ _ _ _ _)∘ac))))))∘ac))) (by rfl) (by decide) (by rfl) (by rfl)) (by rfl) (by trivial)))
       (@aR _ _ _ _ _ _ _ _ _ (@gk _ _ _ _ _ _ _ _ _ _ _ _ (@nJ _ _ _ _ _ _ (@nK _ _ _ _ _ (@lA _ _ _ _ _ _ _ _ _ _ _ _ _ _ _ _ LI LP (hr.mono (by decide)) (@uu _ _ _ _ _ _ 4 (@aU _ 4 _ _ (by rfl) (by first | exact Or.inl rfl | exact Or.inr (Or.inl rfl) | exact Or.inr (Or.inr rfl)) (by decide) (by decide)) (@h_ _ _ _ _ _ _ _ (@aq _ _ _ _ _ (¬7)) (@h_ _ _ _ _ _ _ _ (@lA _ _ _ _ _ _ _ _ _ _ _ _ _ _ _ _ Mb Mj (hr.mono (by decide)) (@h_ _ _ _ _ _ _ _ (@aq _ _ _ _ _ (¬3)) (@uu _ _ _ _ _ _ 5 (@aU _ 5 _ _ (by rfl) (by first | exact Or.inl rfl | exact Or.inr (Or.inl rfl) | exact Or.inr (Or.inr rfl)) (by decide) (by decide)) (@h_ _ _ _ _ _ _ _ (@aq _ _ _ _ _ (¬7)) (@gJ _ _ _) (by rfl)) (by rfl)) (by rfl)) (by rfl) (by decide) (by rfl) (by rfl)) (@gJ _ _ _) (by rfl)) (by rfl)) (by rfl)) (by rfl) (by decide) (by rfl) (by rfl)) (by intro _;rfl))) (@aY _ _ _ _ _ _ (@cm _ _ _ _ _ _ (@aq _ _ _ _ _ (@mK _ _ _ _ _)))) (@dM _ _ _))
       (@aY _ _ _ _ _ _ (@gk _ _ _ _ _ _ _ _ _ _ _ _ (@nJ _ _ _ _ _ _ (@nK _ _ _ _ _ (@lA _ _ _ _ _ _ _ _ _ _ _ _ _ _ _ _ LI LP (hr.mono (by decide)) (@uu _ _ _ _ _ _ 4 (@aU _ 4 _ _ (by rfl) (by first | exact Or.inl rfl | exact Or.inr (Or.inl rfl) | exact Or.inr (Or.inr rfl)) (by decide) (by decide)) (@h_ _ _ _ _ _ _ _ (@aq _ _ _ _ _ (@aI _ _ _ _ _)) (@h_ _ _ _ _ _ _ _ (@lA _ _ _ _ _ _ _ _ _ _ _ _ _ _ _ _ Mb Mj (hr.mono (by decide)) (@h_ _ _ _ _ _ _ _ (@aq _ _ _ _ _ (¬3)) (@uu _ _ _ _ _ _ 5 (@aU _ 5 _ _ (by rfl) (by first | exact Or.inl rfl | exact Or.inr (Or.inl rfl) | exact Or.inr (Or.inr rfl)) (by decide) (by decide)) (@h_ _ _ _ _ _ _ _ (@aq _ _ _ _ _ (@aI _ _ _ _ _)) (@gJ _ _ _) (by rfl)) (by rfl)) (by rfl)) (by rfl) (by decide) (by rfl) (by rfl)) (@gJ _ _ _) (by rfl)) (by rfl)) (by rfl)) (by rfl) (by decide) (by rfl) (by rfl)) (by intro _;rfl))) (@aY _ _ _ _ _ _ (@cm _ _ _ _ _ _ (@aq _ _ _ _ _ (@mK _ _ _ _ _)))) (@dM _ _ _))))) (by intro _;rfl))))))) (by intro _;rfl))
       (@aY _ _ _ _ _ _ (@cm _ _ _ _ _ _ (@aq _ _ _ _ _ (@mK _ _ _ _ _)))))))
noncomputable def ud:FM:=zl l_
local macro_rules | `(tactic| simp? [$ts,*]) => `(tactic| simp [$ts,*, ix, jZ, aO, i4, bg, cL, bi, eP, lD, qg, sE, az, ay, uS, ab, vC, eU, ah, aa, cz, aF, dr, mj, uQ, ml, yi, jH, vX, pU, xh, gG, gf, cg, bO, m9, gc, gF, gO, de, cC, rK, sY, bZ, aB, aj, bM, ci, aL, bf, sr, dC, fN, dg, iL, iS, iQ, iN, iM, fU, fR, fV, d_, fM, oG, fQ, kc, oH, kf, iR, kd, ke, fY, fX, ee, fZ, oK, j7, dX, ji, jj, oe, d9, dZ, eK, iO, Nv, -Om, -NP, -OQ, -Pr, -NF, -Ou, -getElem?_pos, -OP, oA, oz, oq, oo, ox, oy, ou, oB])
theorem A7{n k:Int}(h:0 < k):0≤n % k:=Qp _ (Int.ne_of_gt h)
theorem A8{n k:Int}(h:0 < k):n % k < k:=Qq _ h
def nx:List Int→Int
  | []=>0
  | d::_=>d
def jp(ds:List Int):Prop:=∀d∈ds,0≤d∧d < 2147483648
theorem zB{ds:List Int}(h:jp ds):0≤nx ds∧nx ds < 2147483648:=by
  cases ds with
  | nil=>exact⟨Int.le_refl 0,by show(0:Int) < 2147483648;decide⟩
  | cons d r=>exact h d (by simp)
theorem Ie{ds:List Int}(h:jp ds):jp ds.tail:=fun d hd=>h d (List.mem_of_mem_tail hd)
theorem AN(ds:List Int):bL [.l (ds.map .int)]=some (.d (.int (nx ds)),[.l (ds.tail.map .int)]):=by
  have hq:∀e:En,e[0]?=some (some (.l (ds.map .int)))→bh false e (.s 0) (.l [])=some (.d (.bool (ds.map PyData.int).isEmpty)):=fun e he=>tR he (jF ds).1
  cases ds with
  | nil=>simp? [bL,uZ,hq,nx]
  | cons d r=>simp? [bL,uZ,hq,nx]
theorem mi{ds:List Int}(hd:jp ds):∃(n:Int) (ds':List Int),bL [.l (ds.map .int)]=some (.d (.int n),[.l (ds'.map .int)])∧0≤n∧n < 2147483648∧jp ds':=⟨nx ds,ds.tail,AN ds,(zB hd).1,(zB hd).2,Ie hd⟩
theorem xc(cell k:Int)(h0:0≤k)(h1:k≤1000):∃r,jQ [.d (.int cell),.d (.int k)]=some (.d (.int r),[.d (.int cell),.d (.int k)])∧0≤r∧r < 2147483648:=by
  have a1:l9 (cell % 2147483647) 48271=true:=se (by decide) (by decide)
  have a2:l9 7919 k=true:=zt (by decide) (by decide)
  have a3:l9 (7919*k) k=true:=se (by lia) (by lia)
  have a4:l9 ((cell % 2147483647*48271+7919*k*k+104729) % 2147483647) ((cell % 2147483647*48271+7919*k*k+104729) % 2147483647)=true:=se (by lia) (by lia)
  refine⟨_,by simp? [jQ,wa,aX,oJ,a1,a2,a3,a4];rfl,?_,?_⟩
  · lia
  · lia
theorem rH{ds:List Int}(h:jp ds){r:Int}(h0:0≤r)(h1:r < 2147483648):jp (ds++[r]):=fun d hd=>by
  rcases M_ hd with hd | hd
  · exact h d hd
  · simp at hd;subst hd;exact⟨h0,h1⟩
abbrev dE(ns ds:List Int)(v2 v3 v4:Option Sv):En:=[some (.d (.list (ns.map .int))),some (.l (ds.map .int)),v2,v3,v4]
inductive DI (ns:List Int) (i:Nat):En→Prop
  | mk {ds v2 v3 v4} (hd:jp ds) (hl:ds.length≤1000*i):DI ns i (dE ns ds v2 v3 v4)
inductive DJ (ns:List Int) (k cell:Int) (n i:Nat):En→Prop
  | mk {ds v4} (hd:jp ds) (hl:ds.length=n+i):DJ ns k cell n i (dE ns ds (some (.d (.int k))) (some (.d (.int cell))) v4)
inductive DW (ns:List Int) (k:Int) (v4:Option Sv) (n:Nat):En→Prop
  | mk {cell ds} (hc:0≤cell) (hd:jp ds) (hl:ds.length≤max n 900):DW ns k v4 n (dE ns ds (some (.d (.int k))) (some (.d (.int cell))) v4)
theorem CS(ns:List Int)(hn:ns.length≤63):∃ds,jP [.d (.list (ns.map .int))]=some (.l (ds.map .int),[.d (.list (ns.map .int))])∧jp ds:=by
  have inner:∀(cell k:Int) (ds:List Int) (v4:Option Sv),0≤k→k≤63→jp ds→ds.length≤63000→∃ds' v4',(∀W,gT W jL (aj 4) gX (dE ns ds (some (.d (.int k))) (some (.d (.int cell))) v4)=some (.nx (dE ns ds' (some (.d (.int k))) (some (.d (.int cell))) v4')))∧jp ds'∧ds'.length=ds.length+12:=by
    intro cell k ds v4 k0 k1 hd hl
    obtain⟨e',h1,h2⟩:=jt (own:=[]) (g:=aj 4) (f:=gX) (DJ ns k cell ds.length) (b5 0 12) 0 (dE ns ds (some (.d (.int k))) (some (.d (.int cell))) v4) (fun i x e hx hI=>by
      obtain⟨rfl,hi⟩:=i0 hx
      obtain⟨hd',hl'⟩:=hI
      rename_i ds' v4'
      obtain⟨r1,c1,_,_⟩:=xc cell (3*(0+(i:Int))+1) (by lia) (by lia)
      obtain⟨r2,c2,c3,c4⟩:=xc r1 (0+(i:Int)+k+2) (by lia) (by lia)
      have a1:l9 3 (0+(i:Int))=true:=zt (by decide) (by decide)
      refine⟨_,dE ns (ds'++[r2]) (some (.d (.int k))) (some (.d (.int cell))) (some (.d (.int (0+(i:Int))))),rfl,?_,dm,.mk (rH hd' c3 c4) (by simp;lia)⟩
      have hlen:ds'.length < 1000000:=by lia
      simp only [Int.zero_add] at a1 c1 c2
      simp? [dE,gX,c1,c2,oJ,a1,hlen]) (.mk hd rfl)
    obtain⟨hd',hl'⟩:=h2
    rename_i ds' v4'
    rw [kr] at hl'
    refine⟨ds',v4',fun W=>?_,hd',by lia⟩
    rw [jT (show jL _=some (b5 0 12,[],_) from ef (n:=12) rfl (by decide) (by decide))]
    exact h1
  have wh:∀(cell k:Int) (ds:List Int) (v4:Option Sv),0≤cell→jp ds→ds.length≤63100→∃cell' ds',pE (2 ^ 4200) fx jI (dE ns ds (some (.d (.int k))) (some (.d (.int cell))) v4)=some (.nx (dE ns ds' (some (.d (.int k))) (some (.d (.int cell'))) v4))∧0≤cell'∧jp ds'∧ds'.length≤max ds.length 900:=by
    intro cell k ds v4 hc hd hl
    have tst:∀(cell:Int) (ds:List Int),fx (dE ns ds (some (.d (.int k))) (some (.d (.int cell))) v4)=some (decide (1000000000000000000≤cell)&&decide ((ds.length:Int) < 900),dE ns ds (some (.d (.int k))) (some (.d (.int cell))) v4):=by
      intro cell ds
      by_cases h:(1000000000000000000:Int)≤cell
      · simp? [dE,fx,kY,lx,h]
      · simp? [dE,fx,kY,lx,h]
    obtain⟨e0,e',h1,hI,h3⟩:=pW (ft:=fx) (f:=jI) (DW ns k v4 ds.length)
      (fun e=>1000000 - Dp 1 e) (fun e hI=>by
        obtain⟨hc',hd',hl'⟩:=hI
        rename_i cell' ds'
        rw [tst]
        by_cases c1:(1000000000000000000:Int)≤cell'
        · by_cases c2:(ds'.length:Int) < 900
          · refine .inr ⟨_,dE ns (ds'++[cell' % 2147483629]) (some (.d (.int k))) (some (.d (.int (cell' / 2147483629)))) v4,by rw [decide_eq_true c1,decide_eq_true c2];rfl,?_,.mk (by lia) (rH hd' (by lia) (by lia)) (by simp;lia),?_⟩
            · have hlen:ds'.length < 1000000:=by lia
              have b8:Bt 8000 2147483629:=lU (by decide) (by decide)
              simp? [dE,jI,aX,fB,b8,hlen]
            · simp [Dp,dE];lia
          · exact .inl ⟨_,by rw [decide_eq_true c1,decide_eq_false c2];rfl,trivial⟩
        · exact .inl ⟨_,by rw [decide_eq_false c1];rfl,trivial⟩) (2 ^ 4200) _ (.mk hc hd (by lia)) (wC (m:=20) (QZ (Nat.sub_le _ _) (by decide)) (by decide))
    obtain⟨hc',hd',hl'⟩:=hI
    rename_i cell' ds'
    rw [tst] at h3
    have h4:=(Prod.mk.inj (Ox h3)).2
    subst h4
    exact⟨cell',ds',h1,hc',hd',hl'⟩
  have turn:∀(i:Nat) (ds:List Int) (v3 v4:Option Sv) (hi:i < ns.length),jp ds→ds.length≤1000*i→∃ds2 v3' v4',fm (dE ns ds (some (.d (.int (i:Int)))) v3 v4)=some (.nx (dE ns ds2 (some (.d (.int (i:Int)))) v3' v4'))∧jp ds2∧ds2.length≤1000*(i+1):=by
    intro i ds v3 v4 hi hd hl
    have hcell:atI (ns.map PyData.int) (i:Int)=some (.int ns[i]):=by
      rw [iC (by lia) (by rw [NN];lia)]
      simp [hi]
    have c0:(0:Int)≤(ns[i].natAbs:Int):=by lia
    have st:bi 3 (aF (g1 xB) (aa (ay du (ab 0) (ab 2)) ah)) (dE ns ds (some (.d (.int (i:Int)))) v3 v4)=some (.nx (dE ns ds (some (.d (.int (i:Int)))) (some (.d (.int (ns[i].natAbs:Int)))) v4)):=by
      simp? [dE,hcell]
    generalize (ns[i].natAbs:Int)=cell at c0 st
    have mid:∃ds1 v4',i4 (az (ay Di (ab 3) (ay vf (vC (.int 10)) (vC (.int 18))))) (gT ([4]++[]) jL (aj 4) gX) cL (dE ns ds (some (.d (.int (i:Int)))) (some (.d (.int cell))) v4)=some (.nx (dE ns ds1 (some (.d (.int (i:Int)))) (some (.d (.int cell))) v4'))∧jp ds1∧ds1.length≤ds.length+12:=by
      by_cases cb:cell < 1000000000000000000
      · obtain⟨ds1,v4',f1,f2,f3⟩:=inner cell (i:Int) ds v4 (by lia) (by lia) hd (by lia)
        refine⟨ds1,v4',?_,f2,by lia⟩
        rw [HH (e1:=dE ns ds (some (.d (.int (i:Int)))) (some (.d (.int cell))) v4) (by simp? [dE,kY,lx,cb])]
        exact f1 _
      · refine⟨ds,v4,?_,hd,by lia⟩
        rw [HG (e1:=dE ns ds (some (.d (.int (i:Int)))) (some (.d (.int cell))) v4) (by simp? [dE,kY,lx,cb])]
        rfl
    obtain⟨ds1,v4',m1,m2,m3⟩:=mid
    obtain⟨cell2,ds2,w1,w2,w3,w4⟩:=wh cell (i:Int) ds1 v4' c0 m2 (by lia)
    by_cases c2:(2147483629:Int)≤cell2
    · refine⟨ds2++[cell2 % 2147483629],some (.d (.int cell2)),v4',?_,rH w3 (by lia) (by lia),by simp;lia⟩
      have hlen:ds2.length < 1000000:=by lia
      unfold fm
      rw [jU st,jU m1,jU w1]
      simp? [dE,c2,aX,hlen]
    · refine⟨ds2,some (.d (.int cell2)),v4',?_,w3,by lia⟩
      unfold fm
      rw [jU st,jU m1,jU w1]
      simp? [dE,c2]
  obtain⟨e',h1,hI⟩:=jt (own:=[]) (g:=aj 2) (f:=fm) (DI ns) (b5 0 (min (ns.length:Int) 63).toNat) 0 (dE ns [] none none none) (fun i x e hx hI=>by
    obtain⟨rfl,hi⟩:=i0 hx
    obtain⟨hd,hl⟩:=hI
    rename_i ds v2 v3 v4
    rw [Qm] at hl ⊢
    obtain⟨ds2,v3',v4',t1,t2,t3⟩:=turn i ds v3 v4 (by lia) hd hl
    exact⟨dE ns ds (some (.d (.int (i:Int)))) v3 v4,_,by simp [aj,dE],t1,dm,.mk t2 t3⟩) (.mk (fun d hd=>by cases hd) (by simp))
  obtain⟨hd,hl⟩:=hI
  rename_i ds v2 v3 v4
  refine⟨ds,?_,hd⟩
  have hf:∀W,gT W lZ (aj 2) fm (dE ns [] none none none)=some (.nx (dE ns ds v2 v3 v4)):=fun W=>by
    rw [jT (show lZ _=some (b5 0 (min (ns.length:Int) 63).toNat,[],dE ns [] none none none) from ef (n:=min (ns.length:Int) 63) (by simp? [dE]) (by lia) (by lia))]
    exact h1
  unfold dE at hf
  simp only [Om] at hf
  simp? [jP,v_,hf]
theorem H_(a b:Int)(hb:Bt 4000 b):uc [.d (.int a),.d (.int b)]=some (.d (.int (NB a b)),[.d (.int a),.d (.int b)]):=by
  have tst:∀x y:Int,kR [some (.d (.int x)),some (.d (.int y))]=some (!(y==0),[some (.d (.int x)),some (.d (.int y))]):=fun x y=>by simp? [kR]
  obtain⟨e0,e',h1,⟨x,y,he,hg,hy⟩,h3⟩:=pW (ft:=kR) (f:=nD) (fun e=>∃x y,e=[some (.d (.int x)),some (.d (.int y))]∧NB x y=NB a b∧Bt 4000 y) (zu 1) (fun e ⟨x,y,he,hg,hy⟩=>by
    subst he
    rw [tst]
    by_cases c:y=0
    · subst c;exact .inl ⟨_,rfl,trivial⟩
    · refine .inr ⟨_,[some (.d (.int y)),some (.d (.int (x.fmod y)))],by rw [beq_false_of_ne c];rfl,by simp? [nD,D' c],⟨y,x.fmod y,rfl,by rw [yW,hg],?_⟩,?_⟩
      · have:=mD x c
        exact Bt.of_le hy (by lia)
      · have:=mD x c
        simpa [zu] using this) (2 ^ 4200) _ ⟨a,b,rfl,rfl,hb⟩ (wC (m:=4000) (by simpa [zu,Bt] using hb) (by decide))
  subst he
  rw [tst] at h3
  have h4:=Prod.mk.inj (Ox h3)
  have hy0:y=0:=by simpa using h4.1
  subst hy0
  have h5:=h4.2
  subst h5
  have hs:pE (2 ^ 4200) kR nD [some (.d (.int a)),some (.d (.int b))]=some (.nx [some (.d (.int x)),some (.d (.int 0))]):=h1
  have hg':(x.natAbs:Int)=(NB a b:Int):=by rw [←hg];simp
  simp only [uc,C9,ix,jZ,aO,i4,bg,cL,bi,eP,lD,qg,sE,az,ay,uS,ab,vC,eU,ah,aa,cz,aF,dr,mj,uQ,ml,yi,jH,vX,pU,xh,gG,gf,cg,bO,m9,gc,gF,gO,de,cC,rK,sY,bZ,aB,aj,bM,ci,aL,bf,sr,dC,fN,dg,iL,iS,iQ,iN,iM,fU,fR,fV,d_,fM,oG,fQ,kc,oH,kf,iR,kd,ke,fY,fX,ee,fZ,oK,j7,dX,ji,jj,oe,d9,dZ,eK,iO,Nv, -Om, -NP, -OQ, -Pr, -NF, -Ou, -getElem?_pos, -OP,oA,oz,oq,oo,ox,oy,ou,oB]
  simp? [hs,hg']
theorem DH(t b:Int)(hb:0 < b)(h:Bt 4000 b):qI [.d (.int t),.d (.int b)]=some (.d (.tuple [.int (eW t b).1,.int (eW t b).2]),[.d (.int t),.d (.int b)]):=by
  have g0:=wy (t:=t) (b:=b) (by lia)
  have g1:(NB t b:Int)≠0:=by lia
  have g8:Bt 8000 (NB t b:Int):=(Eb (t:=t) (by lia) h).mono (by decide)
  have e:eW t b=(t.fdiv (NB t b:Int),b.fdiv (NB t b:Int)):=by unfold eW;rw [if_neg (by lia)]
  rw [e]
  simp? [qI,C_,H_ t b h,Bw g1 g8]
theorem Da{i:Int}{n:Nat}(h1: -2147483648 < i)(h2:i < 2147483648)(hn:31≤n):Bt n i:=Bt.mono (m:=31) (by unfold Bt;lia) hn
def yE(t b:Int):Prop:=0≤t∧t≤b∧1≤b∧b≤100∧NB t b=1
theorem AM(n k:Int)(hn:0≤n):∃t b,eM [.d (.int n),.d (.int k)]=some (.d (.tuple [.int t,.int b]),[.d (.int n),.d (.int k)])∧yE t b:=by
  have b9:Bt 8000 9:=lU (by decide) (by decide)
  have b100:Bt 8000 100:=lU (by decide) (by decide)
  have low:∀t b:Int,0 < b→0≤t→t≤b→b≤100→yE (eW t b).1 (eW t b).2:=fun t b hb h0 h1 h2=>by
    obtain⟨r1,r2,r3,r4⟩:=vw hb h0 h1 h2
    exact⟨r1,r2,r3,r4,zh (by lia)⟩
  by_cases c0:k=0
  · subst c0
    obtain⟨x,hx,ha⟩:=nW (xs:=[PyData.tuple [.int 1,.int 2],.tuple [.int 1,.int 3],.tuple [.int 2,.int 3],.tuple [.int 1,.int 1],.tuple [.int 0,.int 1],.tuple [.int 3,.int 4]]) (i:=n % 6) (by lia) (by simp;lia)
    obtain⟨t,b,rfl,hc⟩:∃t b,x=.tuple [.int t,.int b]∧yE t b:=by
      simp only [OJ,Pt,or_false] at hx
      rcases hx with rfl | rfl | rfl | rfl | rfl | rfl<;>exact⟨_,_,rfl,by unfold yE;decide⟩
    exact⟨t,b,by simp? [eM,jk,aX,ha],hc⟩
  · by_cases c1:k=1
    · subst c1
      have hm:(n / 9) % (2+n % 9 - 1) < 2+n % 9 - 1:=Qq _ (by lia)
      have hm0:0≤(n / 9) % (2+n % 9 - 1):=Qp _ (by lia)
      refine⟨_,_,?_,low (1+(n / 9) % (2+n % 9 - 1)) (2+n % 9) (by lia) (by lia) (by lia) (by lia)⟩
      have hpos:∀e:En,bv e (.d (.int (n / 9))) (.d (.int (2+n % 9 - 1)))=_:=fun e=>aX (by lia)
      have hl:=DH (1+(n / 9) % (2+n % 9 - 1)) (2+n % 9) (by lia) (Da (by lia) (by lia) (by decide))
      simp? [eM,jk,aX,fB,b9,hpos,hl]
    · by_cases c2:k=2
      · subst c2
        have hm:(n / 100) % (1+n % 100+1) < 1+n % 100+1:=Qq _ (by lia)
        have hm0:0≤(n / 100) % (1+n % 100+1):=Qp _ (by lia)
        refine⟨_,_,?_,low ((n / 100) % (1+n % 100+1)) (1+n % 100) (by lia) (by lia) (by lia) (by lia)⟩
        have hpos:∀e:En,bv e (.d (.int (n / 100))) (.d (.int (1+n % 100+1)))=_:=fun e=>aX (by lia)
        have hl:=DH ((n / 100) % (1+n % 100+1)) (1+n % 100) (by lia) (Da (by lia) (by lia) (by decide))
        simp? [eM,jk,aX,fB,b100,hpos,hl]
      · refine⟨1,1,?_,by unfold yE;decide⟩
        simp? [eM,jk,c0,c1,c2]
theorem CT(n k:Int):∃r,lm [.d (.int n),.d (.int k)]=some (.d (.int r),[.d (.int n),.d (.int k)])∧0≤r∧r≤1000:=by
  obtain⟨x,hx,ha⟩:=nW (xs:=[PyData.int (n % 7),.int (5+n % 2),.int (n % 1001),.int (1000 - n % 3)]) (i:=k % 4) (by lia) (by simp;lia)
  obtain⟨r,rfl,hr⟩:∃r,x=.int r∧0≤r∧r≤1000:=by
    simp only [OJ,Pt,or_false] at hx
    rcases hx with rfl | rfl | rfl | rfl<;>exact⟨_,rfl,by lia,by lia⟩
  exact⟨r,by simp? [lm,wb,aX,ha],hr⟩
abbrev tE(ds:List Int)(things many shape odds ws:Int)(ts:List lQ)(v7 v8 v9 v10 v11 v12:Option Sv):En:=[some (.l (ds.map .int)),some (.d (.int things)),some (.d (.int many)),some (.d (.int shape)),some (.d (.int odds)),some (.d (.int ws)),some (.l (ts.map bW)),v7,v8,v9,v10,v11,v12]
inductive TR (things many shape odds ws:Int) (ts:List lQ) (k:Option Sv):En→Prop
  | mk {t ds w8 w9 w10 w11 w12} (hd:jp ds) (ht:t.Ok things):TR things many shape odds ws ts k (tE ds things many shape odds ws (ts++[t]) k w8 w9 w10 w11 w12)
inductive TI (things many a b c:Int) (i:Nat):En→Prop
  | mk {ts ds w7 w8 w9 w10 w11 w12} (hd:jp ds) (hl:ts.length=i) (ht:∀t∈ts,t.Ok things):TI things many a b c i (tE ds things many a b c ts w7 w8 w9 w10 w11 w12)
theorem Ib(ds:List Int)(things many shape odds ws:Int)(ts:List lQ)(k:Int)(v8 v9 v10 v11 v12:Option Sv)(hd:jp ds)(h2:2≤things)(h12:things≤100)(s0:0≤shape)(s1:shape < 6)(k0:0≤k)(hl:ts.length≤1000):
    ∃e',gY (tE ds things many shape odds ws ts (some (.d (.int k))) v8 v9 v10 v11 v12)=some (.nx e')∧TR things many shape odds ws ts (some (.d (.int k))) e':=by
  obtain⟨n,d1,tn, -, -,hd1⟩:=mi hd
  obtain⟨m,d2,tm,m0, -,hd2⟩:=mi hd1
  obtain⟨x,hx,ha⟩:=nW (xs:=[PyData.int (n % things),.int 0,.int (k % things),.int (n % things),.int (n % 2),.int (n % things)]) (i:=shape) s0 (by simp;lia)
  have tp:0 < things:=Rm (by decide) h2
  have tq:0 < things - 1:=Int.sub_pos_of_lt (Rm (by decide) h2)
  have nt:0≤n % things∧n % things < things:=⟨A7 tp,A8 tp⟩
  have kt:0≤k % things∧k % things < things:=⟨A7 tp,A8 tp⟩
  obtain⟨one,rfl,o0,o1⟩:∃r,x=.int r∧0≤r∧r < things:=by
    simp only [OJ,Pt,or_false] at hx
    rcases hx with rfl | rfl | rfl | rfl | rfl | rfl<;>exact⟨_,rfl,by lia,by lia⟩
  have r0:0≤(n / 12) % (things - 1):=A7 tq
  have r1:(n / 12) % (things - 1) < things - 1:=A8 tq
  have q0:0≤(one+1+(n / 12) % (things - 1)) % things:=A7 tp
  have q1:(one+1+(n / 12) % (things - 1)) % things < things:=A8 tp
  have qn:(one+1+(n / 12) % (things - 1)) % things≠one:=fun z=>by
    by_cases c:one+1+(n / 12) % (things - 1) < things
    · rw [Int.emod_eq_of_lt (by lia) c] at z;lia
    · have e:(one+1+(n / 12) % (things - 1)) % things=(one+1+(n / 12) % (things - 1) - things) % things:=by rw [Int.sub_emod_right]
      rw [e,Int.emod_eq_of_lt (by lia) (by lia)] at z;lia
  obtain⟨t,b,c1,c2,c3,c4,c5,c6⟩:=AM m odds m0
  obtain⟨w,w1,w2,w3⟩:=CT (m / 10007) ws
  have b12:Bt 8000 12:=lU (by decide) (by decide)
  have b107:Bt 8000 10007:=lU (by decide) (by decide)
  have g1:∀(e:En) (i:Int),bv e (.d (.int i)) (.d (.int things))=some (.d (.int (i % things))):=fun e i=>aX tp
  have g2:∀(e:En) (i:Int),bv e (.d (.int i)) (.d (.int (things - 1)))=some (.d (.int (i % (things - 1)))):=fun e i=>aX tq
  have hlen:ts.length < 1000000:=by lia
  by_cases c:shape=4
  · subst c
    refine⟨tE d2 things many 4 odds ws (ts++[⟨0,1,t,b,w⟩]) (some (.d (.int k))) (some (.d (.int n))) (some (.d (.int 0))) (some (.d (.int 1))) (some (.d (.int m))) (some (.d (.tuple [.int 0,.int 1]))),?_,.mk hd2 ⟨by show(0:Int)≤0;decide,by show(0:Int) < 1;decide,by show(1:Int) < things;lia,c2,c3,c4,c5,w2,w3,c6⟩⟩
    simp? [tE,gY,tn,tm,aX,g1,g2,fB,b12,b107,ha,c1,w1,jv,bW,hlen]
    decide
  · refine⟨tE d2 things many shape odds ws (ts++[⟨min one ((one+1+(n / 12) % (things - 1)) % things),max one ((one+1+(n / 12) % (things - 1)) % things),t,b,w⟩]) (some (.d (.int k))) (some (.d (.int n))) (some (.d (.int one))) (some (.d (.int ((one+1+(n / 12) % (things - 1)) % things)))) (some (.d (.int m))) (some (.d (.tuple [.int (min one ((one+1+(n / 12) % (things - 1)) % things)),.int (max one ((one+1+(n / 12) % (things - 1)) % things))]))),?_,.mk hd2 ⟨by show 0≤min _ _;lia,by show min _ _ < max _ _;lia,by show max _ _ < _;lia,c2,c3,c4,c5,w2,w3,c6⟩⟩
    simp? [tE,gY,tn,tm,aX,g1,g2,fB,b12,b107,ha,c1,w1,jv,bW,hlen,c]
theorem F_(ds:List Int)(things many:Int)(hd:jp ds)(h2:2≤things)(h12:things≤100)(m0:0≤many)(m1:many≤1000):∃(ts:List lQ) (ds':List Int),oT [.l (ds.map .int),.d (.int things),.d (.int many)]=some (.d (.tuple (ts.map bW)),[.l (ds'.map .int),.d (.int things),.d (.int many)])∧jp ds'∧(ts.length:Int)=many∧∀t∈ts,t.Ok things:=by
  obtain⟨n0,d1,t0, -, -,hd1⟩:=mi hd
  obtain⟨n1,d2,t1, -, -,hd2⟩:=mi hd1
  obtain⟨n2,d3,t2, -, -,hd3⟩:=mi hd2
  obtain⟨e',h1,hI⟩:=jt (own:=[]) (g:=aj 7) (f:=gY) (TI things many (n0 % 6) (n1 % 4) (n2 % 4)) (b5 0 many.toNat) 0 (tE d3 things many (n0 % 6) (n1 % 4) (n2 % 4) [] none none none none none none) (fun i x e hx hI=>by
    obtain⟨rfl,hi⟩:=i0 hx
    obtain⟨hd',hl,ht⟩:=hI
    rename_i ts ds' w7 w8 w9 w10 w11 w12
    obtain⟨e9,s1,⟨s2,s3⟩⟩:=Ib ds' things many (n0 % 6) (n1 % 4) (n2 % 4) ts (0+(i:Int)) w8 w9 w10 w11 w12 hd' h2 h12 (A7 (by decide)) (A8 (by decide)) (by lia) (by lia)
    exact⟨_,_,rfl,s1,dm,.mk s2 (by simp;lia) fun z hz=>by
      rcases M_ hz with hz | hz
      · exact ht z hz
      · simp at hz;subst hz;exact s3⟩) (.mk hd3 rfl fun t ht=>by cases ht)
  obtain⟨hd',hl,ht⟩:=hI
  rename_i ts ds' w7 w8 w9 w10 w11 w12
  refine⟨ts,ds',?_,hd',by rw [hl,kr];lia,ht⟩
  have hf:∀W,gT W oN (aj 7) gY (tE d3 things many (n0 % 6) (n1 % 4) (n2 % 4) [] none none none none none none)=some (.nx (tE ds' things many (n0 % 6) (n1 % 4) (n2 % 4) ts w7 w8 w9 w10 w11 w12)):=fun W=>by
    rw [jT (show oN _=some (b5 0 many.toNat,[],tE d3 things many (n0 % 6) (n1 % 4) (n2 % 4) [] none none none none none none) from ef (n:=many) (by simp? [tE]) (by lia) (by lia))]
    exact h1
  unfold tE at hf
  simp only [Om] at hf
  simp? [oT,yr,t0,t1,t2,aX,hf]
abbrev wE(ds:List Int)(most tn things many:Int)(ts:List lQ)(way:Int)(ps:List Int)(v8 v9:Option Sv):En:=[some (.l (ds.map .int)),some (.d (.int most)),some (.d (.int tn)),some (.d (.int things)),some (.d (.int many)),some (.d (.tuple (ts.map bW))),some (.d (.int way)),some (.l (ps.map .int)),v8,v9]
inductive WI (most tn things many:Int) (ts:List lQ) (way:Int) (i:Nat):En→Prop
  | mk {ps ds w8} (hd:jp ds) (hpl:ps.length=i) (hps:∀p∈ps,0≤p∧p≤20):WI most tn things many ts way i (wE ds most tn things many ts way ps w8 none)
theorem Ic(ds:List Int)(most tn:Int)(hd:jp ds)(m0:0≤most)(m1:most≤12)(k0:0≤tn)(k1:tn≤16):∃(W:aT) (ds':List Int),qJ [.l (ds.map .int),.d (.int most),.d (.int tn)]=some (.d (aA W),[.l (ds'.map .int),.d (.int most),.d (.int tn)])∧jp ds'∧W.Ok∧W.things≤most∧(W.ties.length:Int)≤tn:=by
  obtain⟨n0,d1,t0, -, -,hd1⟩:=mi hd
  obtain⟨n1,d2,t1, -, -,hd2⟩:=mi hd1
  have mp:0 < most+1:=Int.lt_add_one_of_le m0
  have kp:0 < tn+1:=Int.lt_add_one_of_le k0
  have g0:∀(e:En),bv e (.d (.int n0)) (.d (.int (most+1)))=some (.d (.int (n0 % (most+1)))):=fun e=>aX mp
  have g1':∀(e:En),bv e (.d (.int n1)) (.d (.int (tn+1)))=some (.d (.int (n1 % (tn+1)))):=fun e=>aX kp
  have th0:0≤n0 % (most+1):=A7 mp
  have th1:n0 % (most+1) < most+1:=A8 mp
  have ti0:0≤n1 % (tn+1):=A7 kp
  have ti1:n1 % (tn+1) < tn+1:=A8 kp
  clear mp kp
  generalize n0 % (most+1)=things at th0 th1 g0
  generalize n1 % (tn+1)=tm at ti0 ti1 g1'
  obtain⟨many,hmany,mm,m00,m01⟩:∃many:Int,many=tm*(if decide (1 < things)=true then 1 else 0)∧(1 < things∨many=0)∧0≤many∧many≤tn:=by
    by_cases c:1 < things
    · exact⟨tm,by simp [c],.inl c,ti0,by lia⟩
    · exact⟨0,by simp [c],.inr rfl,by lia,by lia⟩
  have gm:∀e:En,oI e (.d (.int tm)) (.d (.int (if decide (1 < things)=true then 1 else 0)))=some (.d (.int many)):=fun e=>by
    rw [oJ (se (by split<;>decide) (by split<;>decide)),hmany]
  have gi:∀e:En,g1 ve e [.d (.bool (decide (1 < things)))]=some (.d (.int (if decide (1 < things)=true then 1 else 0))):=fun e=>rfl
  generalize (if decide (1 < things)=true then 1 else 0:Int)=one at gm gi
  obtain⟨ts,d3,t3,hd3,hlen,hts⟩:=F_ d2 (max 2 things) many hd2 (by lia) (by lia) m00 (by lia)
  obtain⟨n4,d4,t4, -, -,hd4⟩:=mi hd3
  obtain⟨e',h1,hI⟩:=jt (own:=[]) (g:=aj 8) (f:=nE) (WI most tn things many ts (n4 % 3)) (b5 0 things.toNat) 0 (wE d4 most tn things many ts (n4 % 3) [] none none) (fun i x e hx hI=>by
    obtain⟨rfl,hi⟩:=i0 hx
    obtain⟨hd5,hpl,hps⟩:=hI
    rename_i ps d5 w8
    obtain⟨p1,d6,t6, -, -,hd6⟩:=mi hd5
    obtain⟨p2,d7,t7, -, -,hd7⟩:=mi hd6
    obtain⟨z,hz,ha⟩:=nW (xs:=[PyData.int 20,.int (1+p1 % 3),.int (p2 % 21)]) (i:=n4 % 3) (A7 (by decide)) (A8 (k:=3) (by decide))
    obtain⟨p,rfl,hp⟩:∃r,z=.int r∧0≤r∧r≤20:=by
      simp only [OJ,Pt,or_false] at hz
      rcases hz with rfl | rfl | rfl<;>exact⟨_,rfl,by lia,by lia⟩
    refine⟨wE d5 most tn things many ts (n4 % 3) ps (some (.d (.int (0+(i:Int))))) none,wE d7 most tn things many ts (n4 % 3) (ps++[p]) (some (.d (.int (0+(i:Int))))) none,rfl,?_,dm,.mk hd7 (by simp;lia) fun q hq=>by
      rcases M_ hq with hq | hq
      · exact hps q hq
      · simp at hq;subst hq;exact hp⟩
    have hlen:ps.length < 1000000:=by lia
    simp? [wE,nE,t6,t7,aX,ha,hlen]) (.mk hd4 rfl fun p hp=>by cases hp)
  obtain⟨hd5,hpl,hps⟩:=hI
  rename_i ps d5 w8
  have hf:∀W,gT W rO (aj 8) nE (wE d4 most tn things many ts (n4 % 3) [] none none)=some (.nx (wE d5 most tn things many ts (n4 % 3) ps w8 none)):=fun W=>by
    rw [jT (show rO _=some (b5 0 things.toNat,[],wE d4 most tn things many ts (n4 % 3) [] none none) from ef (n:=things) (by simp? [wE]) (by lia) (by lia))]
    exact h1
  obtain⟨p1,d6,t6, -, -,hd6⟩:=mi hd5
  obtain⟨p2,d7,t7, -, -,hd7⟩:=mi hd6
  obtain⟨p3,d8,t8, -, -,hd8⟩:=mi hd7
  have xp:0 < max 1 many:=Rm Int.zero_lt_one (Int.le_max_left _ _)
  have gx:∀(e:En),bv e (.d (.int p1)) (.d (.int (max 1 many)))=some (.d (.int (p1 % max 1 many))):=fun e=>aX xp
  have x0:0≤p1 % max 1 many:=A7 xp
  have x1:p1 % max 1 many < max 1 many:=A8 xp
  obtain⟨z,hz,ha⟩:=nW (xs:=[PyData.int 40,.int (1+p1 % max 1 many),.int (p2 % 41)]) (i:=p3 % 3) (A7 (by decide)) (A8 (k:=3) (by decide))
  obtain⟨asks,rfl,hasks⟩:∃r,z=.int r∧0≤r∧r≤40:=by
    simp only [OJ,Pt,or_false] at hz
    rcases hz with rfl | rfl | rfl<;>exact⟨_,rfl,by lia,by lia⟩
  rw [kr] at hpl
  refine⟨⟨things,ts,ps,asks⟩,d8,?_,hd8,⟨th0,by show things≤12;lia,fun t ht=>?_,by show ts.length≤16;lia,by show(ps.length:Int)=things;lia,hps,hasks.1,hasks.2⟩,by show things≤most;lia,by show(ts.length:Int)≤tn;lia⟩
  · unfold wE at hf
    simp only [Om] at hf
    simp? [qJ,C',t0,t1,g0,g1',gm,gi,t3,t4,aX,hf,t6,t7,t8,gx,ha,aA]
  · rcases mm with c | c
    · have:=hts t ht
      rw [show max 2 things=things by lia] at this
      exact this
    · have:ts=[]:=Ra.mp (by lia)
      subst this;cases ht
theorem qY{W:aT}{asked:List Int}{thing:Int}(h:∀k∈asked,gU W k)(hl:asked.length≤1000):fC [.d (aA W),.d (.tuple (asked.map .int)),.d (.int thing)]=some (.d (.int (W.many asked thing)),[.d (aA W),.d (.tuple (asked.map .int)),.d (.int thing)]):=by
  let cs:En:=[some (.d (.int thing)),some (.d (aA W))]
  have hc:∀x∈asked.map PyData.int,eG (cs++[some (.d x)])=some (Bc (fun k=>W.has k thing) x,cs++[some (.d x)]):=fun x hx=>by
    obtain⟨k,hk,rfl⟩:=M' hx
    simp? [Bc,cs,eG,aA,eE (h k hk),bW,aT.has]
  have he:∀x∈asked.map PyData.int,Bc (fun k=>W.has k thing) x=true→eI (cs++[some (.d x)])=some (.d (id x),cs++[some (.d x)]):=fun x hx _=>by
    simp? [cs,eI]
  obtain⟨t',hf⟩:=fy (cs:=cs) (ft:=eG) (fe:=eI) (b:=Bc (fun k=>W.has k thing)) (y:=id) (asked.map PyData.int) none [] hc he (by simp;lia)
  have hv:=uM (cp:=[(2,"_law_thing"),(0,"_law_web_here")]) (nT:=1) (fi:=mF) (g:=aj 2) (ft:=eG) (fe:=eI) (e:=[some (.d (aA W)),some (.d (.tuple (asked.map PyData.int))),some (.d (.int thing))]) (cs:=cs) (t:=[none]) (t':=[t']) (l4 (fa:=ab 1) rfl) rfl rfl hf
  have hlen:(([]++PM id (List.filter (Bc (fun k=>W.has k thing)) (asked.map PyData.int))).length:Int)=W.many asked thing:=by
    unfold aT.many
    simp [List.filter_map]
    rfl
  simp only [fC,qk,ix,jZ,aO,i4,bg,cL,bi,eP,lD,qg,sE,az,ay,uS,ab,vC,eU,ah,aa,cz,aF,dr,mj,uQ,ml,yi,jH,vX,pU,xh,gG,gf,cg,bO,m9,gc,gF,gO,de,cC,rK,sY,bZ,aB,aj,bM,ci,aL,bf,sr,dC,fN,dg,iL,iS,iQ,iN,iM,fU,fR,fV,d_,fM,oG,fQ,kc,oH,kf,iR,kd,ke,fY,fX,ee,fZ,oK,j7,dX,ji,jj,oe,d9,dZ,eK,iO,Nv, -Om, -NP, -OQ, -Pr, -NF, -Ou, -getElem?_pos, -OP,oA,oz,oq,oo,ox,oy,ou,oB]
  simp? [hv]
  simpa using hlen
theorem zJ{W:aT}(ok:W.Ok){thing:Int}(h0:0≤thing)(h1:thing < W.things):atI (W.pat.map PyData.int) thing=some (.int (W.pat.getD thing.toNat 0)):=ti h0 (by have:=ok.pl;lia)
theorem Ia{W:aT}(ok:W.Ok){asked taken:List Int}{k:Int}(h:∀k∈asked,gU W k)(hl:asked.length≤1000)(hk:gU W k):jx [.d (aA W),.d (dS asked taken),.d (.int k)]=some (.d (.bool (W.may asked taken k)),[.d (aA W),.d (dS asked taken),.d (.int k)]):=by
  have tk:=hk.ok ok
  have t0:=tk.o0
  have t1:=tk.o1
  have t2:=tk.o2
  have p1:=zJ ok (thing:=(W.tie k).one) (by lia) (by lia)
  have p2:=zJ ok (thing:=(W.tie k).other) (by lia) (by lia)
  have a1:=qY (W:=W) (asked:=asked) (thing:=(W.tie k).one) h hl
  have a2:=qY (W:=W) (asked:=asked) (thing:=(W.tie k).other) h hl
  rw [cB] at a1 a2 ⊢
  unfold aT.may aT.bears
  by_cases c1:asked.contains k=true
  · simp? [jx,ql,dS,c1]
    simp at c1
    simp [c1]
  · by_cases c2:W.asks≤(asked.length:Int)
    · have c1':k∉asked:=by simpa using c1
      simp? [jx,ql,dS,c1',c2]
    · have c1':k∉asked:=by simpa using c1
      have turn:∀(thing:Int) (v5:Option Sv),fC [.d (.tuple [.int W.things,.tuple (W.ties.map bW),.tuple (W.pat.map .int),.int W.asks]),.d (.tuple (asked.map .int)),.d (.int thing)]=some (.d (.int (W.many asked thing)),[.d (.tuple [.int W.things,.tuple (W.ties.map bW),.tuple (W.pat.map .int),.int W.asks]),.d (.tuple (asked.map .int)),.d (.int thing)])→atI (W.pat.map PyData.int) thing=some (.int (W.pat.getD thing.toNat 0))→
          iD [some (.d (.tuple [.int W.things,.tuple (W.ties.map bW),.tuple (W.pat.map .int),.int W.asks])),some (.d (dS asked taken)),some (.d (.int k)),some (.d (.tuple (asked.map .int))),some (.d (.tuple (taken.map .int))),some (.d (.int thing))]=(if (!taken.contains thing&&decide (W.many asked thing < W.pat.getD thing.toNat 0))=true then some (.nx [some (.d (.tuple [.int W.things,.tuple (W.ties.map bW),.tuple (W.pat.map .int),.int W.asks])),some (.d (dS asked taken)),some (.d (.int k)),some (.d (.tuple (asked.map .int))),some (.d (.tuple (taken.map .int))),some (.d (.int thing))]) else some (.rt (.d (.bool false)) [some (.d (.tuple [.int W.things,.tuple (W.ties.map bW),.tuple (W.pat.map .int),.int W.asks])),some (.d (dS asked taken)),some (.d (.int k)),some (.d (.tuple (asked.map .int))),some (.d (.tuple (taken.map .int))),some (.d (.int thing))])):=by
        intro thing v5 ha hp
        by_cases d1:taken.contains thing=true
        · have d1':thing∈taken:=by simpa using d1
          simp? [iD,d1']
        · have d1':thing∉taken:=by simpa using d1
          by_cases d2:W.many asked thing < W.pat.getD thing.toNat 0
          · have d2':¬W.pat.getD thing.toNat 0≤W.many asked thing:=by lia
            simp only [Rb] at d2 d2' hp
            simp? [iD,d1',ha,hp,d2,d2']
          · have d2':W.pat.getD thing.toNat 0≤W.many asked thing:=by lia
            simp only [Rb] at d2 d2' hp
            simp? [iD,d1',ha,hp,d2,d2']
      have u1:=turn (W.tie k).one none a1 p1
      have u2:=turn (W.tie k).other none a2 p2
      have hf:∀Wl,gT Wl wA (aj 5) iD [some (.d (.tuple [.int W.things,.tuple (W.ties.map bW),.tuple (W.pat.map .int),.int W.asks])),some (.d (dS asked taken)),some (.d (.int k)),some (.d (.tuple (asked.map .int))),some (.d (.tuple (taken.map .int))),none]=jW [] (aj 5) iD [.int (W.tie k).one,.int (W.tie k).other] [some (.d (.tuple [.int W.things,.tuple (W.ties.map bW),.tuple (W.pat.map .int),.int W.asks])),some (.d (dS asked taken)),some (.d (.int k)),some (.d (.tuple (asked.map .int))),some (.d (.tuple (taken.map .int))),none]:=fun Wl=>by
        rw [jT]
        exact l4 (by simp? [eE hk,bW])
      unfold dS at u1 u2 hf ⊢
      by_cases e1:(!taken.contains (W.tie k).one&&decide (W.many asked (W.tie k).one < W.pat.getD (W.tie k).one.toNat 0))=true
      · by_cases e2:(!taken.contains (W.tie k).other&&decide (W.many asked (W.tie k).other < W.pat.getD (W.tie k).other.toNat 0))=true
        · rw [if_pos e1] at u1
          rw [if_pos e2] at u2
          rw [e1,e2]
          simp only [jx,ql,ix,jZ,aO,i4,bg,cL,bi,eP,lD,qg,sE,az,ay,uS,ab,vC,eU,ah,aa,cz,aF,dr,mj,uQ,ml,yi,jH,vX,pU,xh,gG,gf,cg,bO,m9,gc,gF,gO,de,cC,rK,sY,bZ,aB,aj,bM,ci,aL,bf,sr,dC,fN,dg,iL,iS,iQ,iN,iM,fU,fR,fV,d_,fM,oG,fQ,kc,oH,kf,iR,kd,ke,fY,fX,ee,fZ,oK,j7,dX,ji,jj,oe,d9,dZ,eK,iO,Nv, -Om, -NP, -OQ, -Pr, -NF, -Ou, -getElem?_pos, -OP,oA,oz,oq,oo,ox,oy,ou,oB]
          simp? [c1',c2,hf,jW,u1,u2,dm]
        · rw [if_pos e1] at u1
          rw [if_neg e2] at u2
          rw [e1,Bool.not_eq_true _ |>.mp e2]
          simp only [jx,ql,ix,jZ,aO,i4,bg,cL,bi,eP,lD,qg,sE,az,ay,uS,ab,vC,eU,ah,aa,cz,aF,dr,mj,uQ,ml,yi,jH,vX,pU,xh,gG,gf,cg,bO,m9,gc,gF,gO,de,cC,rK,sY,bZ,aB,aj,bM,ci,aL,bf,sr,dC,fN,dg,iL,iS,iQ,iN,iM,fU,fR,fV,d_,fM,oG,fQ,kc,oH,kf,iR,kd,ke,fY,fX,ee,fZ,oK,j7,dX,ji,jj,oe,d9,dZ,eK,iO,Nv, -Om, -NP, -OQ, -Pr, -NF, -Ou, -getElem?_pos, -OP,oA,oz,oq,oo,ox,oy,ou,oB]
          simp? [c1',c2,hf,jW,u1,u2,dm]
      · rw [if_neg e1] at u1
        rw [Bool.not_eq_true _ |>.mp e1]
        simp only [jx,ql,ix,jZ,aO,i4,bg,cL,bi,eP,lD,qg,sE,az,ay,uS,ab,vC,eU,ah,aa,cz,aF,dr,mj,uQ,ml,yi,jH,vX,pU,xh,gG,gf,cg,bO,m9,gc,gF,gO,de,cC,rK,sY,bZ,aB,aj,bM,ci,aL,bf,sr,dC,fN,dg,iL,iS,iQ,iN,iM,fU,fR,fV,d_,fM,oG,fQ,kc,oH,kf,iR,kd,ke,fY,fX,ee,fZ,oK,j7,dX,ji,jj,oe,d9,dZ,eK,iO,Nv, -Om, -NP, -OQ, -Pr, -NF, -Ou, -getElem?_pos, -OP,oA,oz,oq,oo,ox,oy,ou,oB]
        simp? [c1',c2,hf,jW,u1,dm]
theorem AL{W:aT}{asked taken:List Int}{k:Int}(truth:Bool)(hk:gU W k)(h1:asked.length < 60)(h2:taken.length < 60):f_ [.d (aA W),.d (dS asked taken),.d (.int k),.d (.bool truth)]=some (.d (dS (aT.askd asked k) (W.took taken k truth)),[.d (aA W),.d (dS asked taken),.d (.int k),.d (.bool truth)]):=by
  have s1:∀e,g1 ed e [.d (.tuple (asked.map PyData.int++[.int k]))]=some (.l ((io (asked++[k])).map .int)):=fun e=>by
    have:=iT (e:=e) (ns:=asked++[k]) (by simp;lia)
    simpa using this
  have s2:∀e,g1 ed e [.d (.tuple (taken.map PyData.int++[.int (W.tie k).one,.int (W.tie k).other]))]=some (.l ((io (taken++[(W.tie k).one,(W.tie k).other])).map .int)):=fun e=>by
    have:=iT (e:=e) (ns:=taken++[(W.tie k).one,(W.tie k).other]) (by simp;lia)
    simpa using this
  have g1':∀e,cw e (.d (.tuple (asked.map .int))) (.d (.tuple [.int k]))=some (.d (.tuple (asked.map .int++[.int k]))):=fun e=>jv (by simp;lia)
  have g2':∀e,cw e (.d (.tuple (taken.map .int))) (.d (.tuple [.int (W.tie k).one,.int (W.tie k).other]))=some (.d (.tuple (taken.map .int++[.int (W.tie k).one,.int (W.tie k).other]))):=fun e=>jv (by simp;lia)
  rw [cB]
  cases truth with
  | true=>simp? [f_,nX,dS,eE hk,bW,g1',g2',s1,s2,aT.askd,aT.took]
  | false=>simp? [f_,nX,dS,g1',s1,aT.askd,aT.took]
theorem jG{W:aT}{k:Int}(hk:gU W k):bP [.d (aA W),.d (.int k)]=some (.d (.tuple [.int (W.tie k).one,.int (W.tie k).other]),[.d (aA W),.d (.int k)]):=by
  rw [cB]
  simp? [bP,my,eE hk,bW]
theorem uI{W:aT}{asked:List Int}{thing:Int}(h:∀k∈asked,gU W k)(hl:asked.length≤1000):eN [.d (aA W),.d (.tuple (asked.map .int)),.d (.int thing)]=some (.d (.int (W.many asked thing)),[.d (aA W),.d (.tuple (asked.map .int)),.d (.int thing)]):=by
  let cs:En:=[some (.d (.int thing)),some (.d (aA W))]
  have hc:∀x∈asked.map PyData.int,cR (cs++[some (.d x)])=some (Bc (fun k=>W.has k thing) x,cs++[some (.d x)]):=fun x hx=>by
    obtain⟨k,hk,rfl⟩:=M' hx
    have t:=jG (h k hk)
    simp? [Bc,cs,cR,t,aT.has]
  have he:∀x∈asked.map PyData.int,Bc (fun k=>W.has k thing) x=true→cS (cs++[some (.d x)])=some (.d (id x),cs++[some (.d x)]):=fun x hx _=>by
    simp? [cs,cS]
  obtain⟨t',hf⟩:=fy (cs:=cs) (ft:=cR) (fe:=cS) (b:=Bc (fun k=>W.has k thing)) (y:=id) (asked.map PyData.int) none [] hc he (by simp;lia)
  have hv:=uM (cp:=[(2,"thing"),(0,"web")]) (nT:=1) (fi:=jY) (g:=aj 2) (ft:=cR) (fe:=cS) (e:=[some (.d (aA W)),some (.d (.tuple (asked.map PyData.int))),some (.d (.int thing))]) (cs:=cs) (t:=[none]) (t':=[t']) (l4 (fa:=ab 1) rfl) rfl rfl hf
  have hlen:(([]++PM id (List.filter (Bc (fun k=>W.has k thing)) (asked.map PyData.int))).length:Int)=W.many asked thing:=by
    unfold aT.many
    simp [List.filter_map]
    rfl
  simp only [eN,mw,ix,jZ,aO,i4,bg,cL,bi,eP,lD,qg,sE,az,ay,uS,ab,vC,eU,ah,aa,cz,aF,dr,mj,uQ,ml,yi,jH,vX,pU,xh,gG,gf,cg,bO,m9,gc,gF,gO,de,cC,rK,sY,bZ,aB,aj,bM,ci,aL,bf,sr,dC,fN,dg,iL,iS,iQ,iN,iM,fU,fR,fV,d_,fM,oG,fQ,kc,oH,kf,iR,kd,ke,fY,fX,ee,fZ,oK,j7,dX,ji,jj,oe,d9,dZ,eK,iO,Nv, -Om, -NP, -OQ, -Pr, -NF, -Ou, -getElem?_pos, -OP,oA,oz,oq,oo,ox,oy,ou,oB]
  simp? [hv]
  simpa using hlen
theorem Cc{W:aT}(ok:W.Ok){thing:Int}(h0:0≤thing)(h1:thing < W.things):atI (W.pat.map PyData.int) thing=some (.int (W.pat.getD thing.toNat 0)):=ti h0 (by have:=ok.pl;lia)
theorem xb{W:aT}(ok:W.Ok){asked taken:List Int}{thing:Int}(h:∀k∈asked,gU W k)(hl:asked.length≤1000)(h0:0≤thing)(h1:thing < W.things):bC [.d (aA W),.d (dS asked taken),.d (.int thing)]=some (.d (.bool (W.bears asked taken thing)),[.d (aA W),.d (dS asked taken),.d (.int thing)]):=by
  have a:=uI (thing:=thing) h hl
  have p:=Cc ok h0 h1
  have g2:∀e,du e (.d (aA W)) (.d (.int 2))=some (.d (.tuple (W.pat.map .int))):=fun e=>by rw [cB,fQ,ji];rfl
  unfold aT.bears
  generalize W.pat.getD thing.toNat 0=q at p ⊢
  by_cases c:taken.contains thing=true
  · simp only [c]
    simp at c
    simp? [bC,dY,dS,c]
  · have c':taken.contains thing=false:=by simpa using c
    simp only [c']
    simp at c
    unfold dS at a ⊢
    simp? [bC,dY,c,a,g2,p]
theorem yf{W:aT}(ok:W.Ok){asked taken:List Int}{k:Int}(h:∀k∈asked,gU W k)(hl:asked.length≤1000)(hk:gU W k):cK [.d (aA W),.d (dS asked taken),.d (.int k)]=some (.d (.bool (W.may asked taken k)),[.d (aA W),.d (dS asked taken),.d (.int k)]):=by
  have o:=hk.ok ok
  have o0:=o.o0;have o1:=o.o1;have o2:=o.o2
  have b1:=xb ok (taken:=taken) (thing:=(W.tie k).one) h hl (by lia) (by lia)
  have b2:=xb ok (taken:=taken) (thing:=(W.tie k).other) h hl (by lia) (by lia)
  have th:=jG hk
  have g3:∀e,du e (.d (aA W)) (.d (.int 3))=some (.d (.int W.asks)):=fun e=>by rw [cB,fQ,jj];rfl
  unfold aT.may
  by_cases c1:asked.contains k=true
  · simp only [c1]
    simp at c1
    simp? [cK,jJ,dS,c1]
  · have c1':asked.contains k=false:=by simpa using c1
    simp at c1
    by_cases c2:W.asks≤(asked.length:Int)
    · simp only [c1',c2]
      simp? [cK,jJ,dS,c1,c2,g3]
    · simp only [c1',c2]
      have hc:b_ [(0,"web"),(1,"stand")] 1 mH (aj 2) jc js [some (.d (aA W)),some (.d (dS asked taken)),some (.d (.int k)),some (.d (.tuple (asked.map .int)))]=some (.l [.bool (W.bears asked taken (W.tie k).one),.bool (W.bears asked taken (W.tie k).other)],[some (.d (aA W)),some (.d (dS asked taken)),some (.d (.int k)),some (.d (.tuple (asked.map .int)))]):=by
        refine pT (items:=[.int (W.tie k).one,.int (W.tie k).other]) (eo:=[some (.d (aA W)),some (.d (dS asked taken)),some (.d (.int (W.tie k).other))]) (l4 (by simp? [th])) ?_ rfl
        have hi:rP [(0,"web"),(1,"stand")] 1 [some (.d (aA W)),some (.d (dS asked taken)),some (.d (.int k)),some (.d (.tuple (asked.map .int)))]=[some (.d (aA W)),some (.d (dS asked taken)),none]:=rfl
        rw [hi]
        simp? [eH,jc,js,b1,b2]
      have ga:∀e,g1 (hE tQ) e [.l [.bool (W.bears asked taken (W.tie k).one),.bool (W.bears asked taken (W.tie k).other)]]=some (.d (.bool (W.bears asked taken (W.tie k).one&&W.bears asked taken (W.tie k).other))):=fun e=>by
        simp [g1,hE,dU,tQ,rm]
      unfold dS at hc ⊢
      simp? [cK,jJ,c1,c2,g3,hc,ga]
theorem pQ{W:aT}{asked taken:List Int}{k:Int}(truth:Bool)(hk:gU W k)(h1:asked.length < 60)(h2:taken.length < 60):bF [.d (aA W),.d (dS asked taken),.d (.int k),.d (.bool truth)]=some (.d (dS (aT.askd asked k) (W.took taken k truth)),[.d (aA W),.d (dS asked taken),.d (.int k),.d (.bool truth)]):=by
  have s1:∀e,g1 ed e [.d (.tuple (asked.map PyData.int++[.int k]))]=some (.l ((io (asked++[k])).map .int)):=fun e=>by
    have:=iT (e:=e) (ns:=asked++[k]) (by simp;lia)
    simpa using this
  have s2:∀e,g1 ed e [.d (.tuple (taken.map PyData.int++[.int (W.tie k).one,.int (W.tie k).other]))]=some (.l ((io (taken++[(W.tie k).one,(W.tie k).other])).map .int)):=fun e=>by
    have:=iT (e:=e) (ns:=taken++[(W.tie k).one,(W.tie k).other]) (by simp;lia)
    simpa using this
  have g1':∀e,cw e (.d (.tuple (asked.map .int))) (.d (.tuple [.int k]))=some (.d (.tuple (asked.map .int++[.int k]))):=fun e=>jv (by simp;lia)
  have g2':∀e,cw e (.d (.tuple (taken.map .int))) (.d (.tuple [.int (W.tie k).one,.int (W.tie k).other]))=some (.d (.tuple (taken.map .int++[.int (W.tie k).one,.int (W.tie k).other]))):=fun e=>jv (by simp;lia)
  have th:=jG hk
  cases truth with
  | true=>simp? [bF,fK,dS,th,g1',g2',s1,s2,aT.askd,aT.took]
  | false=>simp? [bF,fK,dS,g1',s1,aT.askd,aT.took]
structure JM (W:aT) (asked taken:List Int):Prop where
  inw:∀k∈asked,gU W k
  sa:asked.Pairwise (· ≤·)
  na:asked.Nodup
  ak:(asked.length:Int)≤W.asks
  bd:∀t:Int,0≤t→t < W.things→W.many asked t≤W.pat.getD t.toNat 0
  st:taken.Pairwise (· ≤·)
  nt:taken.Nodup
  th:∀t∈taken,0≤t∧t < W.things
  ev:(taken.length:Int) % 2=0
  tt:∀t∈taken,0 < W.many asked t
noncomputable def l0(th ak:Int):Str:=Ni "things"++Ni " "++(nS th++Ni " "++(Ni "asks"++Ni " "++nS ak))++Ni "\n"
noncomputable def lP(p:Int):Str:=Ni "thing"++Ni " "++nS p++Ni "\n"
noncomputable def fW(t:lQ):Str:=Pc++nS t.top++Ni "/"++nS t.bot
noncomputable def lT(t:lQ):Str:=Ni "tie"++Ni " "++(nS t.one++Ni " "++(nS t.other++Ni " "++(fW t++Ni " "++nS t.worth)))++Ni "\n"
noncomputable def JR(W:aT):List Str:=[l0 W.things W.asks]++W.pat.map lP++W.ties.map lT
structure Kb (t:lQ):Prop where
  a:0≤t.one∧t.one≤1000
  b:0≤t.other∧t.other≤1000
  c:0≤t.top∧t.top≤1000
  d:0≤t.bot∧t.bot≤1000
  e:0≤t.worth∧t.worth≤1000
theorem AU(s:Str)(ys:List Str):Txt.join s ys=Of s ys:=StrLaws.glued_eq_join s ys
theorem yP{e:En}{s:Str}{ys:List Str}(h1:s.length≤16)(h2:(ys.map (·.length)).sum+ys.length≤1048576):mE e (.d (.str s)) (.l (ys.map .str))=some (.d (.str (Of s ys))):=by
  have:∀l:List Str,uE (l.map .str)=some l:=fun l=>by
    induction l with
    | nil=>rfl
    | cons a r ih=>simp [uE,ih]
  simp only [mE,bR,dU,NF,this]
  rw [if_pos ⟨h1,h2⟩,AU]
noncomputable def wd:Nf→Str
  | .int i=>nS i
  | .str x=>x
  | _=>Pc
structure Wd (d:Nf):Prop where
  go:∀e:En,g1 gC e [.d d]=some (.d (.str (wd d)))
  ln:(wd d).length≤20
theorem Wd.int{i:Int}(h0:0≤i)(h1:i≤1000):Wd (.int i):=⟨fun e=>yU h0 h1,by have:=EO h0 h1;show(nS i).length≤20;lia⟩
theorem Wd.str{x:Str}(h:x.length≤20):Wd (.str x):=⟨fun e=>yV,h⟩
def jf(r:List (Int × Bool)):List Int:=(r.filter (·.2)).map (·.1)
def kw(W:aT)(r:List (Int × Bool)):Int:=((jf r).map fun k=>(W.tie k).worth).sum
theorem rZ{r:List (Int × Bool)}{k:Int}(h:k∈jf r):∃p∈r,p.1=k:=by
  unfold jf at h
  obtain⟨p,hp,e⟩:=M' h
  exact⟨p,(Pn.mp hp).1,e⟩
theorem rY{r:List (Int × Bool)}:(jf r).length≤r.length:=by
  unfold jf
  rw [NN]
  exact List.length_filter_le _ _
theorem sum_le{W:aT}(ok:W.Ok):∀(ks:List Int),(∀k∈ks,gU W k)→0≤(ks.map fun k=>(W.tie k).worth).sum∧(ks.map fun k=>(W.tie k).worth).sum≤1000*(ks.length:Int)
  | [],_=>by simp
  | k::ks,h=>by
    obtain⟨a,b⟩:=sum_le ok ks fun k hk=>h k (by simp [hk])
    have o:=(h k (by simp)).ok ok
    have:=o.w0;have:=o.w1
    simp only [NP,List.sum_cons,OO]
    lia
theorem Do{W:aT}(ok:W.Ok){r:List (Int × Bool)}(hr:r.length≤16∧∀p∈r,gU W p.1):0≤kw W r∧kw W r≤16000:=by
  obtain⟨a,b⟩:=sum_le ok (jf r) fun k hk=>by
    obtain⟨p,hp,rfl⟩:=rZ hk
    exact hr.2 p hp
  have:=rY (r:=r)
  unfold kw
  lia
def p8:Nf→Nf
  | .tuple [a,_]=>a
  | _=>.none
def qi:Nf→Nf
  | .tuple [_,b]=>b
  | _=>.none
def boolD:Nf→Bool
  | .bool b=>b
  | _=>false
def qC:Nf→Int
  | .int i=>i
  | _=>0
theorem rX{r:List (Int × Bool)}:((r.map dR).filter fun d=>boolD (qi d)).map p8=(jf r).map .int:=by
  induction r with
  | nil=>rfl
  | cons p r ih=>
    obtain⟨a,b⟩:=p
    unfold jf at ih ⊢
    cases b
    · exact ih
    · exact congrArg (PyData.int a::·) ih
theorem Et{W:aT}{r:List (Int × Bool)}:((r.map dR).filter fun d=>boolD (qi d)).map (fun d=>PyData.int (W.tie (qC (p8 d))).worth)=((jf r).map fun k=>(W.tie k).worth).map .int:=by
  have:((r.map dR).filter fun d=>boolD (qi d)).map (fun d=>PyData.int (W.tie (qC (p8 d))).worth)=(((r.map dR).filter fun d=>boolD (qi d)).map p8).map fun d=>PyData.int (W.tie (qC d)).worth:=by rw [Pk];rfl
  rw [this,rX,Pk,Pk]
  rfl
theorem qZ{r:List (Int × Bool)}(hl:r.length≤1000):ek [.d (.tuple (r.map dR))]=some (.d (.tuple ((jf r).map .int)),[.d (.tuple (r.map dR))]):=by
  obtain⟨t',e1,hf⟩:=fL (cs:=[]) (g:=bZ (aB (aj 0) (aB (aj 1) bM))) (ft:=jo) (fe:=jr) (b:=fun d=>boolD (qi d)) (y:=p8) (u:=fun d=>[some (.d (p8 d)),some (.d (qi d))]) 2 (r.map dR) [none,none] [] rfl (fun x hx t ht=>by
    obtain⟨p,hp,rfl⟩:=M' hx
    match t,ht with
    | [a1,a2],_=>rfl) (fun x hx=>rfl) (fun x hx=>by
    obtain⟨p,hp,rfl⟩:=M' hx
    rfl) (fun x hx _=>by
    obtain⟨p,hp,rfl⟩:=M' hx
    rfl) (by simp;lia)
  rw [OQ,rX] at hf
  have hv:b_ [] 2 mG (bZ (aB (aj 0) (aB (aj 1) bM))) jo jr [some (.d (.tuple (r.map dR)))]=some (.l ((jf r).map .int),[some (.d (.tuple (r.map dR)))]):=jV (own:=[]) rfl hf
  generalize (jf r).map PyData.int=A at*
  generalize r.map dR=B at*
  simp? [ek,qm,hv]
theorem HL{e:En}{ws:List Int}:g1 (hE qB) e [.l (ws.map .int)]=some (.d (.int ws.sum)):=by simp [g1,hE,dU,qB,l5]
theorem sQ{W:aT}{r:List (Int × Bool)}(hr:r.length≤16∧∀p∈r,gU W p.1):dH [.d (aA W),.d (.tuple (r.map dR))]=some (.d (.int (kw W r)),[.d (aA W),.d (.tuple (r.map dR))]):=by
  have g1':∀e:En,du e (.d (aA W)) (.d (.int 1))=some (.d (.tuple (W.ties.map bW))):=fun e=>by rw [cB,fQ,dX];rfl
  have kl:=rY (r:=r)
  have tk:=qZ (r:=r) (by lia)
  obtain⟨t1,hf1⟩:=fy (cs:=[some (.d (aA W))]) (ft:=jc) (fe:=dD) (b:=fun _=>true) (y:=fun x=>.int (W.tie (qC x)).worth) ((jf r).map .int) none [] (fun x hx=>rfl) (fun x hx _=>by
    obtain⟨k,hk',rfl⟩:=M' hx
    obtain⟨p,hp,rfl⟩:=rZ hk'
    have ai:=eE (W:=W) (k:=p.1) (hr.2 p hp)
    show dD [some (.d (aA W)),some (.d (.int p.1))]=some (.d (.int (W.tie p.1).worth),[some (.d (aA W)),some (.d (.int p.1))])
    unfold bW at ai g1'
    generalize (W.tie p.1).worth=w at*
    generalize (W.ties.map fun t=>PyData.tuple [.int t.one,.int t.other,.tuple [.int t.top,.int t.bot],.int t.worth])=TT at*
    simp? [dD,g1',ai]) (by simp;lia)
  rw [OQ,List.filter_eq_self.mpr (fun _ _=>rfl),show(((jf r).map PyData.int).map fun x=>PyData.int (W.tie (qC x)).worth)=((jf r).map fun k=>(W.tie k).worth).map .int by rw [Pk,Pk];rfl] at hf1
  have hi:jw [some (.d (aA W)),some (.d (.tuple (r.map dR)))]=some ((jf r).map .int,[],[some (.d (aA W)),some (.d (.tuple (r.map dR)))]):=l4 (by
    generalize (jf r).map PyData.int=A at*
    simp? [tk])
  have hv:=pT (cp:=[(0,"web")]) (nT:=1) (g:=aj 1) hi hf1 rfl
  have s:=fun e:En=>HL (e:=e) (ws:=(jf r).map fun k=>(W.tie k).worth)
  unfold kw
  generalize ((jf r).map fun k=>(W.tie k).worth).sum=w at*
  generalize ((jf r).map fun k=>(W.tie k).worth).map PyData.int=A at*
  simp? [dH,kO,hv,s]
noncomputable def Lk(k:Int):Str:=Ni "ask "++nS k
theorem G3:∀k:Fin 16,OM (Lk (k.val:Int)) none (some 4)=Ni "ask ":=by decide+kernel
theorem G4:∀k:Fin 16,OM (Lk (k.val:Int)) (some 4) none=nS (k.val:Int):=by decide+kernel
theorem G5:∀k:Fin 16,OX (Lk (k.val:Int)) (Ni " ")=[Ni "ask",nS (k.val:Int)]:=by decide+kernel
theorem G6:∀k:Fin 16,Qo (nS (k.val:Int))=true∧(nS (k.val:Int)).length≤4∧Qn (nS (k.val:Int))=some (k.val:Int):=by decide+kernel
theorem G7:∀k:Fin 16,∀x∈["yes","no","may","kept","back","best","bound"],Lk (k.val:Int)≠Ni x:=by decide+kernel
theorem oR{P:Int→Prop}(h:∀k:Fin 16,P (k.val:Int)){k:Int}(h0:0≤k)(h1:k < 16):P k:=by
  have:=h ⟨k.toNat,by lia⟩
  rw [show(((⟨k.toNat,by lia⟩:Fin 16).val:Nat):Int)=k by simp;lia] at this
  exact this
def gW(W:aT):Std→List (Int × Bool)→Std
  | s,[]=>s
  | s,p::r=>gW W (nxt W s p.1 p.2) r
def j6(W:aT):Std→List (Int × Bool)→Prop
  | _,[]=>True
  | s,p::r=>gU W p.1∧p.1∉s.1∧j6 W (nxt W s p.1 p.2) r
theorem j6.snoc{W:aT}{k:Int}{b:Bool}(hk:gU W k):∀{r:List (Int × Bool)} {s:Std},j6 W s r→k∉(gW W s r).1→j6 W s (r++[(k,b)])
  | [],s,_,h=>⟨hk,h,trivial⟩
  | p::r,s,h,n=>⟨h.1,h.2.1,j6.snoc hk h.2.2 n⟩
theorem j6.take{W:aT}:∀{r:List (Int × Bool)} {s:Std} (n:Nat),j6 W s r→j6 W s (r.take n)
  | _,_,0,_=>by rw [List.take_zero];trivial
  | [],_,n+1,h=>by rw [List.take_nil];exact h
  | p::r,_,n+1,h=>⟨h.1,h.2.1,j6.take n h.2.2⟩
theorem j6.st{W:aT}(ok:W.Ok):∀{r:List (Int × Bool)} {s:Std},iA W s→j6 W s r→iA W (gW W s r)
  | [],_,h,_=>h
  | p::r,s,h,q=>j6.st (r:=r) (s:=nxt W s p.1 p.2) ok (h.nxt p.2 ok q.1 q.2.1) q.2.2
theorem w_{W:aT}:∀(r:List (Int × Bool)) (s:Std),(gW W s r).1.length=s.1.length+r.length
  | [],_=>rfl
  | p::r,s=>by
    show(gW W (nxt W s p.1 p.2) r).1.length=_
    rw [w_ r]
    show(aT.askd s.1 p.1).length+r.length=_
    rw [nV,OO];lia
theorem j6.inw{W:aT}:∀{r:List (Int × Bool)} {s:Std},j6 W s r→∀p∈r,gU W p.1
  | [],_,_,p,hp=>by cases hp
  | q::r,_,h,p,hp=>by
    rcases Na hp with rfl | hp
    · exact h.1
    · exact j6.inw h.2.2 p hp
theorem j6.len{W:aT}(ok:W.Ok){r:List (Int × Bool)}(h:j6 W ([],[]) r):r.length≤16:=by
  have h1:=(h.st ok (iA.first W)).len
  rw [w_] at h1
  have:=ok.len
  simp at h1
  lia
theorem x_{W:aT}(ok:W.Ok){s:Std}(h:iA W s):s.1.length < 60∧s.2.length < 60:=by
  have:=h.len;have:=h.tk;have:=ok.len
  lia
theorem pq{W:aT}(ok:W.Ok){m:FM}(hm:∀(s:Std) (k:Int) (b:Bool),iA W s→gU W k→m [.d (aA W),.d (dS s.1 s.2),.d (.int k),.d (.bool b)]=some (.d (dS (nxt W s k b).1 (nxt W s k b).2),[.d (aA W),.d (dS s.1 s.2),.d (.int k),.d (.bool b)])){own:iz}{x1:Option Sv}
    (kp:∀a c d,keeps own [some (.d (aA W)),x1,a,c,d]):∀(r:List (Int × Bool)) (s:Std) (a b:Option Sv),iA W s→j6 W s r→
    ∃a' b',jW own (bZ (aB (aj 3) (aB (aj 4) bM))) (bi 2 (dr 4 m (aa (ab 0) (aa (ab 2) (aa (ab 3) (aa (ab 4) ah)))))) (r.map dR) [some (.d (aA W)),x1,some (.d (dS s.1 s.2)),a,b]=some (.nx [some (.d (aA W)),x1,some (.d (dS (gW W s r).1 (gW W s r).2)),a',b'])
  | [],s,a,b,_,_=>⟨a,b,rfl⟩
  | p::r,s,a,b,hs,hr=>by
    have h1:=hm s p.1 p.2 hs hr.1
    obtain⟨a',b',ih⟩:=pq ok hm kp r (nxt W s p.1 p.2) (some (.d (.int p.1))) (some (.d (.bool p.2))) (hs.nxt p.2 ok hr.1 hr.2.1) hr.2.2
    refine⟨a',b',?_⟩
    have k1:=kp (some (.d (dS (nxt W s p.1 p.2).1 (nxt W s p.1 p.2).2))) (some (.d (.int p.1))) (some (.d (.bool p.2)))
    simp only [NP,jW]
    generalize aA W=w at*
    generalize dS s.1 s.2=d at*
    generalize dS (nxt W s p.1 p.2).1 (nxt W s p.1 p.2).2=d2 at*
    simp? [dR,h1,k1]
    exact ih
theorem pR{W:aT}(ok:W.Ok){r:List (Int × Bool)}(hr:j6 W ([],[]) r):bG [.d (aA W),.d (.tuple (r.map dR))]=some (.d (dS (gW W ([],[]) r).1 (gW W ([],[]) r).2),[.d (aA W),.d (.tuple (r.map dR))]):=by
  obtain⟨a,b,h⟩:=pq ok (m:=bF) (own:=[]) (x1:=some (.d (.tuple (r.map dR)))) (fun s k b hs hk=>pQ b hk (x_ ok hs).1 (x_ ok hs).2) (fun _ _ _=>dm) r ([],[]) none none (iA.first W) hr
  have hf:∀Wl,gT Wl hR (bZ (aB (aj 3) (aB (aj 4) bM))) gZ [some (.d (aA W)),some (.d (.tuple (r.map dR))),some (.d (dS [] [])),none,none]=some (.nx [some (.d (aA W)),some (.d (.tuple (r.map dR))),some (.d (dS (gW W ([],[]) r).1 (gW W ([],[]) r).2)),a,b]):=fun Wl=>by
    exact(jT (l4 rfl)).trans h
  generalize dS (gW W ([],[]) r).1 (gW W ([],[]) r).2=D at*
  generalize aA W=w at*
  generalize r.map dR=rs at*
  unfold dS at hf
  simp only [Om] at hf
  simp? [bG,jm,hf]
theorem i8{W:aT}(ok:W.Ok){r:List (Int × Bool)}(hr:j6 W ([],[]) r):gb [.d (aA W),.l (r.map dR)]=some (.d (dS (gW W ([],[]) r).1 (gW W ([],[]) r).2),[.d (aA W),.l (r.map dR)]):=by
  obtain⟨a,b,h⟩:=pq ok (m:=f_) (own:=[(1,r.map dR)]) (x1:=some (.l (r.map dR))) (fun s k b hs hk=>AL b hk (x_ ok hs).1 (x_ ok hs).2) (fun _ _ _ p hp=>by rw [NX] at hp;subst hp;rfl) r ([],[]) none none (iA.first W) hr
  have hf:gT [3,4,2] k8 (bZ (aB (aj 3) (aB (aj 4) bM))) kJ [some (.d (aA W)),some (.l (r.map dR)),some (.d (dS [] [])),none,none]=some (.nx [some (.d (aA W)),some (.l (r.map dR)),some (.d (dS (gW W ([],[]) r).1 (gW W ([],[]) r).2)),a,b]):=by
    exact(Aq (own:=[(1,r.map dR)]) rfl rfl).trans h
  generalize dS (gW W ([],[]) r).1 (gW W ([],[]) r).2=D at*
  generalize aA W=w at*
  generalize r.map dR=rs at*
  unfold dS at hf
  simp only [Om] at hf
  simp? [gb,nZ,hf]
theorem jR{n:Int}(h0:0≤n)(h1:n < 1000000):(nS n).length≤6:=by
  obtain⟨m,rfl⟩:=Int.eq_ofNat_of_zero_le h0
  have h2:m < 10 ^ 6:=by lia
  have:=(Nat.length_toDigits_le_iff (b:=10) (n:=m) (k:=6) (by decide) (by decide)).mpr h2
  have e:nS (m:Int)=Ni (String.ofList (Nat.toDigits 10 m)):=rfl
  have e2:(Ni (String.ofList (Nat.toDigits 10 m))).length=(Nat.toDigits 10 m).length:=by
    rw [Str.ofString_eq_toList]
    simp [Str.length]
  rw [e,e2];exact this
theorem hJ{e:En}{i:Int}(h0:0≤i)(h1:i < 1000000):g1 gC e [.d (.int i)]=some (.d (.str (nS i))):=by
  simp only [g1,gC]
  have h2:i.natAbs.log2 < 1900:=by
    by_cases z:i.natAbs=0
    · rw [z];decide
    · exact(Nat.log2_lt z).mpr (Oe (show i.natAbs < 2 ^ 20 by lia) (QB (by decide) (by decide)))
  rw [if_pos h2];rfl
theorem Wd.intB{i:Int}(h0:0≤i)(h1:i < 1000000):Wd (.int i):=⟨fun e=>hJ h0 h1,by have:=jR h0 h1;show(nS i).length≤20;lia⟩
theorem Ao{ds:List Nf}(h:∀d∈ds,Wd d)(hl:ds.length≤60):∃t',eH (aj 0) jc (aF (g1 gC) (aa (ab 0) ah)) ds [none] []=some ((ds.map wd).map .str,[t']):=by
  obtain⟨t',h3⟩:=fy (cs:=[]) (ft:=jc) (fe:=aF (g1 gC) (aa (ab 0) ah)) (b:=fun _=>true) (y:=fun d=>.str (wd d)) ds none [] (fun _ _=>rfl) (fun x hx _=>by
    have:=(h x hx).go
    simp? [this]) (by simp;lia)
  refine⟨t',?_⟩
  rw [Pk]
  rw [List.filter_eq_self.mpr (fun _ _=>rfl)] at h3
  exact h3
theorem uv{ds:List Nf}(h:∀d∈ds,Wd d)(hl:ds.length≤60)(e:En):mE e (.d (.str (Ni " "))) (.l ((ds.map wd).map .str))=some (.d (.str (Of (Ni " ") (ds.map wd)))):=yP (by decide) (by
  have:=L2.sum_le (ls:=ds.map wd) (k:=20) (fun x hx=>by obtain⟨d,hd,rfl⟩:=M' hx;exact(h d hd).ln)
  simp only [NN] at this ⊢
  have:=Nat.mul_le_mul_right 20 hl
  lia)
theorem xf{ds:List Nf}(h:∀d∈ds,Wd d)(hl:ds.length≤60):di [.d (.tuple ds)]=some (.d (.str (Of (Ni " ") (ds.map wd))),[.d (.tuple ds)]):=by
  obtain⟨t',h3⟩:=Ao h hl
  have hc:b_ [] 1 k9 (aj 0) jc kX [some (.d (.tuple ds))]=some (.l ((ds.map wd).map .str),[some (.d (.tuple ds))]):=jV (own:=[]) rfl h3
  have hj:=fun e=>uv h hl e
  rw [Pk] at hc hj
  generalize Of (Ni " ") (ds.map wd)=res at hj ⊢
  simp? [di,n9,hc,hj]
noncomputable def jC(ks:List Int):Str:=if ks=[] then Ni "none" else Of (Ni " ") (ks.map nS)
theorem xi(ks:List Int):(ks.map PyData.int).map wd=ks.map nS:=by rw [Pk];rfl
theorem Wd.ints{ks:List Int}(h:∀k∈ks,0≤k∧k < 1000000):∀d∈ks.map PyData.int,Wd d:=fun d hd=>by
  obtain⟨k,hk,rfl⟩:=M' hd
  exact Wd.intB (h k hk).1 (h k hk).2
theorem yM{e:En}{xs:List Nf}{neg:Bool}(hs:NQ (.list xs)=true):bh neg e (.d (.list xs)) (.l [])=some (.d (.bool (if neg then !xs.isEmpty else xs.isEmpty))):=by
  unfold bh
  simp only [gE,NF,hs]
  have h0:NQ (.list [])=true:=by simp [NQ,Oa,OG,Ot,OW]
  rw [h0]
  cases xs<;>simp [OH,PyData.eqvAll]
theorem vQ{ks:List Int}(h:∀k∈ks,0≤k∧k < 1000000)(hl:ks.length≤60):eg [.d (.list (ks.map .int))]=some (.d (.str (jC ks)),[.d (.list (ks.map .int))]):=by
  unfold jC
  cases ks with
  | nil=>rfl
  | cons k r=>
    have h1:=Wd.ints h
    have hl':((k::r).map PyData.int).length≤60:=by simpa using hl
    obtain⟨t',h3⟩:=Ao h1 hl'
    have hc:b_ [] 1 k7 (aj 0) jc kW [some (.d (.list ((k::r).map .int)))]=some (.l ((((k::r).map .int).map wd).map .str),[some (.d (.list ((k::r).map .int)))]):=jV (own:=[]) rfl h3
    have hj:=fun e=>uv h1 hl' e
    have ne:∀e,bh false e (.d (.list ((k::r).map .int))) (.l [])=some (.d (.bool false)):=fun e=>by
      have:=yM (e:=e) (neg:=false) (jF (k::r)).1
      simpa using this
    rw [if_neg (by simp)]
    rw [xi] at hc hj
    generalize Of (Ni " ") ((k::r).map nS)=res at hj ⊢
    generalize ((k::r).map nS).map PyData.str=A at hc hj
    generalize (k::r).map PyData.int=B at*
    simp? [eg,nY,ne,hc,hj]
theorem qE(sep y:Str):∀(x:Str) (xs:List Str),Of sep ((x::xs)++[y])=Of sep (x::xs)++sep++y
  | x,[]=>rfl
  | x,z::xs=>by
    have ih:=qE sep y z xs
    show x++sep++Of sep ((z::xs)++[y])=(x++sep++Of sep (z::xs))++sep++y
    rw [ih]
    simp only [Str.append_assoc]
noncomputable def lc(W:aT)(r:List (Int × Bool)):Str:=jC (jf r)++Ni " "++nS (kw W r)
theorem za{W:aT}(ok:W.Ok){r:List (Int × Bool)}(hr:j6 W ([],[]) r):(∀k∈jf r,0≤k∧k < 1000000)∧(jf r).length≤16:=by
  have hl:=hr.len ok
  have wl:=ok.len
  refine⟨fun k hk=>?_,by have:=rY (r:=r);lia⟩
  obtain⟨p,hp,rfl⟩:=rZ hk
  have:=hr.inw p hp
  obtain⟨h0,h1⟩:=this
  lia
theorem uH{W:aT}(ok:W.Ok){r:List (Int × Bool)}(hr:j6 W ([],[]) r):cD [.d (aA W),.d (.tuple (r.map dR))]=some (.d (.str (lc W r)),[.d (aA W),.d (.tuple (r.map dR))]):=by
  have hl:=hr.len ok
  have h1:=qZ (r:=r) (by lia)
  have h2:=sQ (W:=W) (r:=r) ⟨hl,hr.inw⟩
  obtain⟨w0,w1⟩:=Do ok (r:=r) ⟨hl,hr.inw⟩
  obtain⟨c1,c2⟩:=za ok hr
  unfold lc jC
  generalize kw W r=wt at*
  cases hk:jf r with
  | nil=>
    rw [hk] at h1
    have h3:=xf (ds:=[.str (Ni "none"),.int wt]) (fun d hd=>by
      simp only [OJ,Pt,or_false] at hd
      rcases hd with rfl | rfl
      · exact Wd.str (by decide)
      · exact Wd.intB w0 (by lia)) (by simp)
    have e3:Of (Ni " ") ([PyData.str (Ni "none"),PyData.int wt].map wd)=Ni "none"++Ni " "++nS wt:=rfl
    rw [e3] at h3
    rw [if_pos rfl]
    generalize Ni "none"++Ni " "++nS wt=res at*
    generalize aA W=w at*
    generalize r.map dR=rs at*
    have g3:∀e,cw e (.d (.tuple [.str (Ni "none")])) (.d (.tuple [.int wt]))=some (.d (.tuple [.str (Ni "none"),.int wt])):=fun e=>jv (by simp)
    simp only [Om] at h1
    simp? [cD,jl,h1,h2,g3,h3]
  | cons k t=>
    rw [hk] at h1 c1 c2
    have hw:∀d∈((k::t).map PyData.int)++[PyData.int wt],Wd d:=fun d hd=>by
      rcases M_ hd with z | z
      · exact Wd.ints c1 d z
      · rw [NX] at z;rw [z];exact Wd.intB w0 (by lia)
    have hll:(((k::t).map PyData.int)++[PyData.int wt]).length≤60:=by simp at c2 ⊢;lia
    have h3:=xf hw hll
    have e3:(((k::t).map PyData.int)++[PyData.int wt]).map wd=(nS k::t.map nS)++[nS wt]:=by
      rw [List.map_append,xi]
      rfl
    rw [e3,qE] at h3
    rw [if_neg (by simp)]
    rw [show(k::t).map nS=nS k::t.map nS from rfl]
    generalize Of (Ni " ") (nS k::t.map nS)++Ni " "++nS wt=res at*
    have g3:∀e,cw e (.d (.tuple ((k::t).map PyData.int))) (.d (.tuple [.int wt]))=some (.d (.tuple (((k::t).map PyData.int)++[.int wt]))):=fun e=>jv (by simp at c2 ⊢;lia)
    have hl2:0 < ((k::t).map PyData.int).length:=by simp
    generalize (k::t).map PyData.int=B at*
    generalize aA W=w at*
    generalize r.map dR=rs at*
    simp? [cD,jl,h1,h2,hl2,g3,h3]
theorem Jj{k:Int}(h0:0≤k)(h1:k < 16):OM (Lk k) none (some 4)=Ni "ask ":=oR (P:=fun k=>OM (Lk k) none (some 4)=Ni "ask ") G3 h0 h1
theorem Jk{k:Int}(h0:0≤k)(h1:k < 16):OM (Lk k) (some 4) none=nS k:=oR (P:=fun k=>OM (Lk k) (some 4) none=nS k) G4 h0 h1
theorem Jl{k:Int}(h0:0≤k)(h1:k < 16):OX (Lk k) (Ni " ")=[Ni "ask",nS k]:=oR (P:=fun k=>OX (Lk k) (Ni " ")=[Ni "ask",nS k]) G5 h0 h1
theorem EH{k:Int}(h0:0≤k)(h1:k < 16):Qo (nS k)=true∧(nS k).length≤4∧Qn (nS k)=some k:=oR (P:=fun k=>Qo (nS k)=true∧(nS k).length≤4∧Qn (nS k)=some k) G6 h0 h1
theorem Jm{k:Int}(h0:0≤k)(h1:k < 16):∀x∈["yes","no","may","kept","back","best","bound"],Lk k≠Ni x:=oR (P:=fun k=>∀x∈["yes","no","may","kept","back","best","bound"],Lk k≠Ni x) G7 h0 h1
theorem ze{k:Int}(h0:0≤k)(h1:k < 16):(Lk k).length≤10:=by
  have:=(EH h0 h1).2.1
  unfold Lk
  rw [CG]
  have:(Ni "ask ").length=4:=by decide
  lia
theorem zg(k:Int):NK (Lk k)=true:=by
  unfold Lk
  exact fJ (ax _) (qM k)
theorem e_{e:En}{neg:Bool}{a b:Str}(ha:NK a=true)(hb:NK b=true):bh neg e (.d (.str a)) (.d (.str b))=some (.d (.bool (if neg then !decide (a=b) else decide (a=b)))):=by
  have e1:(a==b)=decide (a=b):=by by_cases c:a=b<;>simp [c]
  unfold bh
  simp [gE,NQ,Oa,Ot,OH,ha,hb,e1]
theorem AE{W:aT}:NQ (.tuple (W.ties.map bW))=true:=(Sh.tup (n:=6) fun d hd=>by
  obtain⟨t,_,rfl⟩:=M' hd
  exact Sh.tie).ok (by decide)
theorem uJ{k:Int}(h0:0≤k)(h1:k < 16):eO [.d (.str (nS k))]=some (.d (.int k),[.d (.str (nS k))]):=by
  obtain⟨a1,a2,a3⟩:=EH h0 h1
  have s1:∀e:En,g1 lW e [.d (.str (nS k))]=some (.d (.int (nS k).length)):=fun e=>by
    simp only [g1,lW,bR,NF];rw [if_pos (by lia)]
  have s2:∀e:En,g1 iP e [.d (.str (nS k))]=some (.d (.int k)):=fun e=>by
    simp only [g1,iP,bR,NF];rw [if_pos (by lia),a3];rfl
  have s3:∀e:En,sd e (.d (.str (nS k)))=some (.d (.bool true)):=fun e=>by
    simp only [sd,bR,Ou,a1]
  have s4:∀e:En,g1 gC e [.d (.int k)]=some (.d (.str (nS k))):=fun e=>hJ h0 (by lia)
  have s5:∀e:En,bh false e (.d (.str (nS k))) (.d (.str (nS k)))=some (.d (.bool true)):=fun e=>by
    rw [e_ (qM k) (qM k)];simp
  have hl:¬(4:Int) < ((nS k).length:Int):=by lia
  generalize (nS k).length=L at*
  generalize nS k=x at*
  simp? [eO,mx,s1,s2,s3,s4,s5,hl]
theorem tS{e:En}{k:Int}:kb e (.d (.int k)) (.d .none)=some (.d (.bool true)):=rfl
theorem qA{e:En}:kb e (.d .none) (.d .none)=some (.d (.bool false)):=rfl
theorem yO{e:En}{k:Int}:Gn e (.d (.int k)) (.d .none)=some (.d (.bool false)):=rfl
theorem D_{e:En}:Gn e (.d .none) (.d .none)=some (.d (.bool true)):=rfl
theorem sP{W:aT}(ok:W.Ok){k:Int}(hk:gU W k):dG [.d (aA W),.d (.str (Lk k))]=some (.d (.int k),[.d (aA W),.d (.str (Lk k))]):=by
  obtain⟨h0,h1⟩:=id hk
  have wl:=ok.len
  have h1':k < 16:=by lia
  have a:=ze h0 h1'
  have s0:∀e:En,jy e (.d (.str (Lk k))) (.d (.str (Ni " ")))=some (.l [.str (Ni "ask"),.str (nS k)]):=fun e=>by
    simp only [jy,bR,NF]
    rw [if_pos ⟨by decide,by lia⟩,Jl h0 h1'];rfl
  have n1:=uJ h0 h1'
  have s5:∀e:En,bh true e (.d (.str (Ni "ask"))) (.d (.str (Ni "ask")))=some (.d (.bool false)):=fun e=>by
    rw [e_ (ax _) (ax _)];simp
  have g1':∀e:En,du e (.d (aA W)) (.d (.int 1))=some (.d (.tuple (W.ties.map bW))):=fun e=>by rw [cB,fQ,dX];rfl
  have hlt:k < ((W.ties.map bW).length:Int):=by simpa using h1
  generalize W.ties.map bW=TT at*
  generalize aA W=w at*
  generalize Lk k=x at*
  generalize nS k=y at*
  simp? [dG,kN,s0,s5,n1,g1',tS,hlt]
theorem CP{W:aT}{r:List (Int × Bool)}(hr:r.length≤16∧∀p∈r,gU W p.1):oS [.d (aA W),.l (r.map dR)]=some (.d (.int (kw W r)),[.d (aA W),.l (r.map dR)]):=by
  have g1':∀e:En,du e (.d (aA W)) (.d (.int 1))=some (.d (.tuple (W.ties.map bW))):=fun e=>by rw [cB,fQ,dX];rfl
  obtain⟨t',e1,hf⟩:=fL (cs:=[some (.d (aA W))]) (g:=bZ (aB (aj 1) (aB (aj 2) bM))) (ft:=tw) (fe:=kU) (b:=fun d=>boolD (qi d)) (y:=fun d=>.int (W.tie (qC (p8 d))).worth) (u:=fun d=>[some (.d (p8 d)),some (.d (qi d))]) 2 (r.map dR) [none,none] [] rfl (fun x hx t ht=>by
    obtain⟨p,hp,rfl⟩:=M' hx
    match t,ht with
    | [a1,a2],_=>rfl) (fun x hx=>rfl) (fun x hx=>by
    obtain⟨p,hp,rfl⟩:=M' hx
    rfl) (fun x hx _=>by
    obtain⟨p,hp,rfl⟩:=M' hx
    have ai:=eE (W:=W) (k:=p.1) (hr.2 p hp)
    show kU [some (.d (aA W)),some (.d (.int p.1)),some (.d (.bool p.2))]=some (.d (.int (W.tie p.1).worth),[some (.d (aA W)),some (.d (.int p.1)),some (.d (.bool p.2))])
    unfold bW at ai g1'
    generalize (W.tie p.1).worth=w at*
    generalize (W.ties.map fun t=>PyData.tuple [.int t.one,.int t.other,.tuple [.int t.top,.int t.bot],.int t.worth])=TT at*
    simp? [kU,g1',ai]) (by simp;lia)
  rw [OQ,Et] at hf
  have hv:=uO (cp:=[(0,"_law_web_here")]) (nT:=2) (fi:=tU) (e:=[some (.d (aA W)),some (.l (r.map dR))]) (own:=[(1,r.map dR)]) rfl rfl hf rfl
  have s:=fun e:En=>HL (e:=e) (ws:=(jf r).map fun k=>(W.tie k).worth)
  unfold kw
  generalize ((jf r).map fun k=>(W.tie k).worth).sum=w at*
  generalize ((jf r).map fun k=>(W.tie k).worth).map PyData.int=A at*
  simp? [oS,yq,hv,s]
inductive Ln (W:aT) (B:Prop):Str→Prop
  | ask {k:Int} (h:gU W k):Ln W B (Lk k)
  | yes:Ln W B (Ni "yes")
  | no:Ln W B (Ni "no")
  | back (h:B):Ln W B (Ni "back")
theorem F8{W:aT}(ok:W.Ok){ds:List Int}(hd:jp ds){menu:List Str}(hm:∀x∈menu,x=Ni "ask"∨x=Ni "yes"∨x=Ni "no"∨x=Ni "back")(h0:0 < menu.length):∃x,Ln W (Ni "back"∈menu) x∧kg [.l (ds.map .int),.d (aA W),.d (.list (menu.map .str))]=some (.d (.str x),[.l (ds.tail.map .int),.d (aA W),.d (.list (menu.map .str))]):=by
  have n1:=AN ds
  obtain⟨a0,a1⟩:=zB hd
  have g1':∀e:En,du e (.d (aA W)) (.d (.int 1))=some (.d (.tuple (W.ties.map bW))):=fun e=>by rw [cB,fQ,dX];rfl
  have pm:(0:Int) < (menu.length:Int):=by lia
  have m0:0≤nx ds % (menu.length:Int):=Qp _ (by lia)
  have m1:nx ds % (menu.length:Int) < (menu.length:Int):=Qq _ pm
  obtain⟨x,hx⟩:∃x,menu[(nx ds % (menu.length:Int)).toNat]?=some x:=⟨_,OF (by lia)⟩
  have hmx:=hm x (Nb hx)
  have gx:atI (menu.map PyData.str) (nx ds % (menu.length:Int))=some (.str x):=by
    rw [iC m0 (by simpa using m1),NT,hx];rfl
  have gm:∀e:En,bv e (.d (.int (nx ds))) (.d (.int (((menu.map PyData.str).length:Nat):Int)))=some (.d (.int (nx ds % (menu.length:Int)))):=fun e=>by
    rw [NN];exact aX pm
  have tk:=ok.len
  have key:∀y:Str,y≠Ni "ask"→NK y=true→∀e:En,bh true e (.d (.str y)) (.d (.str (Ni "ask")))=some (.d (.bool true)):=fun y hy ho e=>by
    rw [e_ ho (ax _)];simp [hy]
  by_cases hask:x=Ni "ask"
  · subst hask
    have s5:∀e:En,bh true e (.d (.str (Ni "ask"))) (.d (.str (Ni "ask")))=some (.d (.bool false)):=fun e=>by
      rw [e_ (ax _) (ax _)];simp
    have hsh:NQ (.tuple (W.ties.map bW))=true:=AE
    have g2:∀e:En,bh false e (.d (.tuple (W.ties.map bW))) (.d (.tuple []))=some (.d (.bool (W.ties.map bW).isEmpty)):=fun e=>by
      have:=yN (e:=e) (neg:=false) hsh
      simpa using this
    by_cases hn:W.ties.length=0
    · refine⟨_,.yes,?_⟩
      have he:(W.ties.map bW).isEmpty=true:=by simpa using Ra.mp hn
      rw [he] at g2
      generalize W.ties.map bW=TT at*
      generalize aA W=w at*
      generalize menu.map PyData.str=MM at*
      generalize nx ds % (menu.length:Int)=q at*
      simp? [kg,rk,n1,g1',gm,gx,s5,g2]
    · have he:(W.ties.map bW).isEmpty=false:=by
        cases h:W.ties with
        | nil=>exact absurd (by rw [h];rfl) hn
        | cons a r=>rfl
      rw [he] at g2
      have pt:(0:Int) < (W.ties.length:Int):=by lia
      have q0:0≤nx ds / 64 % (W.ties.length:Int):=Qp _ (by lia)
      have q1:nx ds / 64 % (W.ties.length:Int) < (W.ties.length:Int):=Qq _ pt
      refine⟨_,.ask (k:=nx ds / 64 % (W.ties.length:Int)) ⟨q0,by lia⟩,?_⟩
      have gd:∀e:En,fP e (.d (.int (nx ds))) (.d (.int 64))=some (.d (.int (nx ds / 64))):=fun e=>fB (by decide) (lU (by decide) (by decide))
      have gm2:∀e:En,bv e (.d (.int (nx ds / 64))) (.d (.int (((W.ties.map bW).length:Nat):Int)))=some (.d (.int (nx ds / 64 % (W.ties.length:Int)))):=fun e=>by
        rw [NN];exact aX pt
      generalize nx ds / 64 % (W.ties.length:Int)=k at*
      have s4:∀e:En,g1 gC e [.d (.int k)]=some (.d (.str (nS k))):=fun e=>hJ q0 (by lia)
      have s6:∀e:En,g_ e (.d (.str (Ni "ask "))) (.d (.str (nS k)))=some (.d (.str (Lk k))):=fun e=>nG (by
        have:=jR q0 (by lia)
        have:(Ni "ask ").length=4:=by decide
        lia)
      generalize Lk k=lk at*
      generalize nS k=y at*
      generalize W.ties.map bW=TT at*
      generalize aA W=w at*
      generalize menu.map PyData.str=MM at*
      generalize nx ds % (menu.length:Int)=q at*
      simp? [kg,rk,n1,g1',gm,gx,s5,g2,gd,gm2,s4,s6]
  · have hx':Ln W (Ni "back"∈menu) x∧NK x=true:=by
      rcases hmx with rfl | rfl | rfl | rfl
      · exact absurd rfl hask
      · exact⟨.yes,ax _⟩
      · exact⟨.no,ax _⟩
      · exact⟨.back (Nb hx),ax _⟩
    refine⟨x,hx'.1,?_⟩
    have s5:=key x hask hx'.2
    generalize aA W=w at*
    generalize menu.map PyData.str=MM at*
    generalize nx ds % (menu.length:Int)=q at*
    simp? [kg,rk,n1,gm,gx,s5]
def oL(o:Option Int):List Nf:=o.toList.map .int
theorem yl:∀{a b:String},Ni a≠Ni b→∀(e:En) (neg:Bool),bh neg e (.d (.str (Ni a))) (.d (.str (Ni b)))=some (.d (.bool neg)):=fun{a b} h e neg=>by
  rw [e_ (ax _) (ax _)]
  simp [h]
theorem FY(a:String)(e:En)(neg:Bool):bh neg e (.d (.str (Ni a))) (.d (.str (Ni a)))=some (.d (.bool !neg)):=by
  rw [e_ (ax _) (ax _)]
  simp
theorem yJ{r:List (Int × Bool)}(hl:r.length≤1000){x0 x2 x4 a b:Option Sv}:b_ [] 2 wz (bZ (aB (aj 0) (aB (aj 1) bM))) rA rJ [x0,none,x2,some (.l (r.map dR)),x4,a,b]=some (.l ((jf r).map .int),[x0,none,x2,some (.l (r.map dR)),x4,a,b]):=by
  obtain⟨t',e1,hf⟩:=fL (cs:=[]) (g:=bZ (aB (aj 0) (aB (aj 1) bM))) (ft:=rA) (fe:=rJ) (b:=fun d=>boolD (qi d)) (y:=p8) (u:=fun d=>[some (.d (p8 d)),some (.d (qi d))]) 2 (r.map dR) [none,none] [] rfl (fun x hx t ht=>by
    obtain⟨p,hp,rfl⟩:=M' hx
    match t,ht with
    | [a1,a2],_=>rfl) (fun x hx=>rfl) (fun x hx=>by
    obtain⟨p,hp,rfl⟩:=M' hx
    rfl) (fun x hx _=>by
    obtain⟨p,hp,rfl⟩:=M' hx
    rfl) (by simp;lia)
  rw [OQ,rX] at hf
  exact jV (own:=[(3,r.map dR)]) rfl hf
theorem tX(sep:Str)(hs:sep.length=1):∀(xs:List Str) (k:Nat),(∀x∈xs,x.length≤k)→(Of sep xs).length≤xs.length*(k+1)
  | [],_,_=>by show(Pc).length≤_;exact OS _
  | [x],k,h=>by show x.length≤_;have:=h x (by simp);simp;lia
  | x::y::r,k,h=>by
    have ih:=tX sep hs (y::r) k fun z hz=>h z (Ow _ hz)
    have:=h x (by simp)
    show(x++sep++Of sep (y::r)).length≤_
    rw [CG,CG,hs,OO,Nat.succ_mul]
    lia
theorem An{ks:List Int}(h:∀k∈ks,0≤k∧k < 1000000)(hl:ks.length≤60):(jC ks).length≤1000:=by
  unfold jC
  split
  · decide
  · have:=tX (Ni " ") (by decide) (ks.map nS) 6 fun x hx=>by
      obtain⟨k,hk,rfl⟩:=M' hx
      exact jR (h k hk).1 (h k hk).2
    rw [NN] at this
    lia
theorem vS{W:aT}(ok:W.Ok){r:List (Int × Bool)}{o:Option Int}(hr:j6 W ([],[]) r):cE ([some (.d (aA W)),none,some (.d (.str (Ni "kept")))],[(.s 1,.st (r.map dR) (oL o))])=some (.str (lc W r),[(.s 1,.st (r.map dR) (oL o))]):=by
  have h1:=i8 ok hr
  have hl:=hr.len ok
  obtain⟨c1,c2⟩:=za ok hr
  have h2:=vQ c1 (by lia)
  have h3:=CP (W:=W) (r:=r) ⟨hl,hr.inw⟩
  obtain⟨w0,w1⟩:=Do ok (r:=r) ⟨hl,hr.inw⟩
  have s1:OM (Ni "kept") none (some 4)=Ni "kept":=by decide+kernel
  have sl:(Ni "kept").length≤1000000:=by decide
  have q1:=yl (a:="kept") (b:="ask ") (by decide+kernel)
  have q2:=yl (a:="kept") (b:="yes") (by decide+kernel)
  have q3:=yl (a:="kept") (b:="no") (by decide+kernel)
  have q4:=yl (a:="kept") (b:="may") (by decide+kernel)
  have q5:=FY "kept"
  have s4:∀e:En,g1 gC e [.d (.int (kw W r))]=some (.d (.str (nS (kw W r)))):=fun e=>hJ w0 (by lia)
  have hc:=fun x0 x2 x4 a b=>yJ (r:=r) (x0:=x0) (x2:=x2) (x4:=x4) (a:=a) (b:=b) (by lia)
  have rl:(jC (jf r)).length≤1000:=An c1 (by lia)
  have nl:=jR w0 (by lia:kw W r < 1000000)
  have sp:(Ni " ").length=1:=by decide
  have t1:∀e:En,g_ e (.d (.str (jC (jf r)))) (.d (.str (Ni " ")))=some (.d (.str (jC (jf r)++Ni " "))):=fun e=>nG (by lia)
  have t2:∀e:En,g_ e (.d (.str (jC (jf r)++Ni " "))) (.d (.str (nS (kw W r))))=some (.d (.str (jC (jf r)++Ni " "++nS (kw W r)))):=fun e=>nG (by rw [CG];lia)
  unfold lc
  generalize jC (jf r)++Ni " "++nS (kw W r)=RES at*
  generalize jC (jf r)++Ni " "=RE at*
  generalize jC (jf r)=RO at*
  generalize nS (kw W r)=NW at*
  generalize kw W r=wt at*
  generalize (jf r).map PyData.int=KS at*
  generalize dS (gW W ([],[]) r).1 (gW W ([],[]) r).2=D at*
  generalize r.map dR=rs at*
  generalize oL o=ws at*
  generalize aA W=w at*
  simp? [cE,dh,iF,pC,jS,okO,Lc.slot,ny,bR,s1,sl,q1,q2,q3,q4,q5,h1,h2,h3,s4,hc,t1,t2]
theorem zx{x0 x1 x2 x3 a b:Option Sv}{ws:List Nf}(hs:NQ (.list ws)=true)(neg:Bool):bh neg [x0,x1,x2,x3,some (.l ws),a,b] (.s 4) (.l [])=some (.d (.bool (if neg then !ws.isEmpty else ws.isEmpty))):=tR rfl hs
theorem ma(o:Option Int):NQ (.list (oL o))=true:=(jF o.toList).1
theorem ye{W:aT}(ok:W.Ok){r:List (Int × Bool)}{o:Option Int}{k:Int}(hr:j6 W ([],[]) r)(hk:gU W k)(g:Bool)(hg:g=(o.isNone&&W.may (gW W ([],[]) r).1 (gW W ([],[]) r).2 k)):cE ([some (.d (aA W)),none,some (.d (.str (Lk k)))],[(.s 1,.st (r.map dR) (oL o))])=some (.str (if g=true then Ni "asked" else Ni "NoAsk"),[(.s 1,.st (r.map dR) (oL (if g=true then some k else o)))]):=by
  obtain⟨k0,k1⟩:=id hk
  have wl:=ok.len
  have k1':k < 16:=by lia
  have st:=hr.st ok (iA.first W)
  have h1:=i8 ok hr
  have h2:=Ia ok (taken:=(gW W ([],[]) r).2) st.inw (by have:=(x_ ok st).1;lia) hk
  have s1:=Jj k0 k1'
  have s2:=Jk k0 k1'
  have sl:(Lk k).length≤1000000:=by have:=ze k0 k1';lia
  obtain⟨a1,a2,a3⟩:=EH k0 k1'
  have i1:∀e:En,g1 iP e [.d (.str (nS k))]=some (.d (.int k)):=fun e=>by
    simp only [g1,iP,bR,NF];rw [if_pos (by lia),a3];rfl
  have q1:=FY "ask "
  have n1:=fun x0 x1 x2 x3 a b neg=>zx (x0:=x0) (x1:=x1) (x2:=x2) (x3:=x3) (a:=a) (b:=b) (ma o) neg
  generalize W.may (gW W ([],[]) r).1 (gW W ([],[]) r).2 k=mb at*
  generalize dS (gW W ([],[]) r).1 (gW W ([],[]) r).2=D at*
  generalize r.map dR=rs at*
  generalize aA W=w at*
  generalize Lk k=x at*
  generalize nS k=y at*
  cases o with
  | some j=>
    subst hg
    have n2:∀x0 x1 x2 x3 a b,bh true [x0,x1,x2,x3,some (.l (oL (some j))),a,b] (.s 4) (.l [])=some (.d (.bool true)):=fun x0 x1 x2 x3 a b=>by
      rw [n1];rfl
    generalize he:oL (some j)=ws at*
    simp? [cE,dh,iF,pC,jS,okO,Lc.slot,ny,bR,s1,s2,sl,q1,h1,i1,n2]
    exact he.symm
  | none=>
    have n2:∀x0 x1 x2 x3 a b,bh true [x0,x1,x2,x3,some (.l []),a,b] (.s 4) (.l [])=some (.d (.bool false)):=fun x0 x1 x2 x3 a b=>by
      have:=n1 x0 x1 x2 x3 a b true
      exact this
    have e0:oL none=[]:=rfl
    have e1:oL (some k)=[.int k]:=rfl
    cases mb with
    | true=>
      subst hg
      simp? [cE,dh,iF,pC,jS,okO,Lc.slot,ny,bR,e0,e1,s1,s2,sl,q1,h1,h2,i1,n2]
    | false=>
      subst hg
      simp? [cE,dh,iF,pC,jS,okO,Lc.slot,ny,bR,e0,s1,s2,sl,q1,h1,h2,i1,n2]
noncomputable def xk(W:aT)(k:Int)(b:Bool):Str:=if b=true then Ni "kept "++nS (W.tie k).worth else Ni "gone"
noncomputable def Be(b:Bool):Str:=if b=true then Ni "yes" else Ni "no"
theorem vR{W:aT}(ok:W.Ok){r:List (Int × Bool)}(hr:j6 W ([],[]) r)(b:Bool):cE ([some (.d (aA W)),none,some (.d (.str (Be b)))],[(.s 1,.st (r.map dR) [])])=some (.str (Ni "NoAsk"),[(.s 1,.st (r.map dR) [])]):=by
  have h1:=i8 ok hr
  have n2:∀x0 x1 x2 x3 a b,bh false [x0,x1,x2,x3,some (.l []),a,b] (.s 4) (.l [])=some (.d (.bool true)):=fun x0 x1 x2 x3 a b=>zx (ws:=[]) (ma none) false
  generalize dS (gW W ([],[]) r).1 (gW W ([],[]) r).2=D at*
  generalize r.map dR=rs at*
  generalize aA W=w at*
  cases b with
  | true=>
    have s1:OM (Ni "yes") none (some 4)=Ni "yes":=by decide+kernel
    have sl:(Ni "yes").length≤1000000:=by decide
    have q1:=yl (a:="yes") (b:="ask ") (by decide+kernel)
    have q2:=FY "yes"
    have e0:Be true=Ni "yes":=rfl
    simp? [cE,dh,iF,pC,jS,okO,Lc.slot,ny,bR,e0,s1,sl,q1,q2,h1,n2]
  | false=>
    have s1:OM (Ni "no") none (some 4)=Ni "no":=by decide+kernel
    have sl:(Ni "no").length≤1000000:=by decide
    have q1:=yl (a:="no") (b:="ask ") (by decide+kernel)
    have q3:=yl (a:="no") (b:="yes") (by decide+kernel)
    have q2:=FY "no"
    have e0:Be false=Ni "no":=rfl
    simp? [cE,dh,iF,pC,jS,okO,Lc.slot,ny,bR,e0,s1,sl,q1,q2,q3,h1,n2]
theorem yd{W:aT}(ok:W.Ok){r:List (Int × Bool)}(hr:j6 W ([],[]) r){k:Int}(hk:gU W k)(b:Bool):cE ([some (.d (aA W)),none,some (.d (.str (Be b)))],[(.s 1,.st (r.map dR) [.int k])])=some (.str (xk W k b),[(.s 1,.st ((r++[(k,b)]).map dR) [])]):=by
  have h1:=i8 ok hr
  have hl:=hr.len ok
  have o:=hk.ok ok
  have n2:∀x0 x1 x2 x3 a b,bh false [x0,x1,x2,x3,some (.l [.int k]),a,b] (.s 4) (.l [])=some (.d (.bool false)):=fun x0 x1 x2 x3 a b=>zx (ws:=[.int k]) (ma (some k)) false
  have g1':∀e:En,du e (.d (aA W)) (.d (.int 1))=some (.d (.tuple (W.ties.map bW))):=fun e=>by rw [cB,fQ,dX];rfl
  have ai:=eE (W:=W) (k:=k) hk
  have s4:∀e:En,g1 gC e [.d (.int (W.tie k).worth)]=some (.d (.str (nS (W.tie k).worth))):=fun e=>hJ o.w0 (by have:=o.w1;lia)
  have s6:∀e:En,g_ e (.d (.str (Ni "kept "))) (.d (.str (nS (W.tie k).worth)))=some (.d (.str (Ni "kept "++nS (W.tie k).worth))):=fun e=>nG (by
    have:=jR o.w0 (by have:=o.w1;lia:(W.tie k).worth < 1000000)
    have:(Ni "kept ").length=5:=by decide
    lia)
  have hlr:(r.map dR).length < 1000000:=by rw [NN];lia
  have e1:(r++[(k,b)]).map dR=r.map dR++[dR (k,b)]:=by simp
  rw [e1]
  unfold xk
  unfold bW at ai g1'
  generalize Ni "kept "++nS (W.tie k).worth=RS at*
  generalize nS (W.tie k).worth=y at*
  generalize (W.tie k).worth=wt at*
  generalize (W.ties.map fun t=>PyData.tuple [.int t.one,.int t.other,.tuple [.int t.top,.int t.bot],.int t.worth])=TT at*
  generalize dS (gW W ([],[]) r).1 (gW W ([],[]) r).2=D at*
  generalize r.map dR=rs at*
  generalize aA W=w at*
  cases b with
  | true=>
    have s1:OM (Ni "yes") none (some 4)=Ni "yes":=by decide+kernel
    have sl:(Ni "yes").length≤1000000:=by decide
    have q1:=yl (a:="yes") (b:="ask ") (by decide+kernel)
    have q2:=FY "yes"
    have e0:Be true=Ni "yes":=rfl
    simp? [cE,dh,iF,pC,jS,okO,Lc.slot,ny,bR,e0,s1,sl,q1,q2,h1,n2,hlr,g1',ai,s4,s6,dR]
  | false=>
    have s1:OM (Ni "no") none (some 4)=Ni "no":=by decide+kernel
    have sl:(Ni "no").length≤1000000:=by decide
    have q1:=yl (a:="no") (b:="ask ") (by decide+kernel)
    have q3:=yl (a:="no") (b:="yes") (by decide+kernel)
    have q2:=FY "no"
    have e0:Be false=Ni "no":=rfl
    simp? [cE,dh,iF,pC,jS,okO,Lc.slot,ny,bR,e0,s1,sl,q1,q2,q3,h1,n2,hlr,g1',ai,s4,s6,dR]
def wq(a b c:Nf):List (Str × Nf):=[("web",a),("run",b),("waiting",c)]
theorem om(a b c:Nf):(wq a b c).lookup ("web":Str)=some a:=rfl
theorem ol(a b c:Nf):(wq a b c).lookup ("run":Str)=some b:=rfl
theorem qy(a b c:Nf):(wq a b c).lookup ("waiting":Str)=some c:=rfl
theorem D8(a b c:Nf):(wq a b c).lookup ("take_ask":Str)=none:=rfl
theorem yH(a b c:Nf):(wq a b c).lookup ("take_answer":Str)=none:=rfl
theorem tM(a b c:Nf):(wq a b c).length < 900:=show 3 < 900 by decide
theorem yI(a b c x:Nf):lz "run" x (wq a b c)=wq a x c:=rfl
theorem oj(a b c x:Nf):lz "waiting" x (wq a b c)=wq a b x:=rfl
theorem cx(c:Lc)(o:Ob)(r:je):Od c ((c,o)::r)=some o:=by rw [NU];simp
theorem gh(c:Lc)(o o':Ob):pL c o' [(c,o)]=[(c,o')]:=by simp [pL]
def wO(o:Option Int):Nf:=o.elim .none .int
def gP(W:aT)(r:List (Int × Bool))(o:Option Int):Ob:=.dk (wq (aA W) (.tuple (r.map dR)) (wO o))
theorem BP(w:Nf):bD ([none,some (.d w)],[(.s 0,.dk [])])=some (.none,[(.s 0,.dk (wq w (.tuple []) .none))]):=by
  have p1:lz "waiting" .none (lz "run" (.tuple []) (lz "web" w []))=wq w (.tuple []) .none:=rfl
  have q1:(lz "web" w []).length < 900:=show 1 < 900 by decide
  have q2:(lz "run" (.tuple []) (lz "web" w [])).length < 900:=show 2 < 900 by decide
  simp? [bD,dh,g9,a9,e6,aC,jS,okO,Lc.slot,cx,gh,p1,q1,q2]
theorem D7{W:aT}(ok:W.Ok){r:List (Int × Bool)}{o:Option Int}{k:Int}(hr:j6 W ([],[]) r)(hk:gU W k)(g:Bool)(hg:g=(o.isNone&&W.may (gW W ([],[]) r).1 (gW W ([],[]) r).2 k)):ba ([none,some (.d (.int k))],[(.s 0,gP W r o)])=some (.str (if g=true then Ni "asked" else Ni "NoAsk"),[(.s 0,gP W r (if g=true then some k else o))]):=by
  have st:=hr.st ok (iA.first W)
  have h1:=pR ok hr
  have h2:=yf ok (taken:=(gW W ([],[]) r).2) st.inw (by have:=(x_ ok st).1;lia) hk
  unfold gP
  generalize W.may (gW W ([],[]) r).1 (gW W ([],[]) r).2 k=mb at*
  generalize dS (gW W ([],[]) r).1 (gW W ([],[]) r).2=D at*
  generalize r.map dR=rs at*
  generalize aA W=w at*
  cases o with
  | some j=>
    subst hg
    simp? [ba,dh,cJ,a9,eQ,bH,cG,e6,vY,jd,bU,ir,nv,bT,ip,bV,aC,jS,okO,Lc.slot,cx,gh,om,ol,qy,tM,oj,wO,L2.boolD,tS,h1,h2]
  | none=>
    cases mb with
    | true=>
      subst hg
      simp? [ba,dh,cJ,a9,eQ,bH,cG,e6,vY,jd,bU,ir,nv,bT,ip,bV,aC,jS,okO,Lc.slot,cx,gh,om,ol,qy,tM,oj,wO,L2.boolD,qA,h1,h2]
    | false=>
      subst hg
      simp? [ba,dh,cJ,a9,eQ,bH,cG,e6,vY,jd,bU,ir,nv,bT,ip,bV,aC,jS,okO,Lc.slot,cx,gh,om,ol,qy,tM,oj,wO,L2.boolD,qA,h1,h2]
theorem Bq{W:aT}{r:List (Int × Bool)}(b:Bool):aP ([none,some (.d (.bool b))],[(.s 0,gP W r none)])=some (.str (Ni "NoAsk"),[(.s 0,gP W r none)]):=by
  unfold gP
  simp? [aP,dh,bX,a9,eQ,bH,cG,bU,ir,bV,aC,jS,okO,Lc.slot,cx,qy,wO,L2.boolD,D_]
theorem D6{W:aT}(ok:W.Ok){r:List (Int × Bool)}{k:Int}(hl:r.length≤16)(hk:gU W k)(b:Bool):aP ([none,some (.d (.bool b))],[(.s 0,gP W r (some k))])=some (.str (xk W k b),[(.s 0,gP W (r++[(k,b)]) none)]):=by
  have o:=hk.ok ok
  have g1':∀e:En,du e (.d (aA W)) (.d (.int 1))=some (.d (.tuple (W.ties.map bW))):=fun e=>by rw [cB,fQ,dX];rfl
  have ai:=eE (W:=W) (k:=k) hk
  have e1:(r++[(k,b)]).map dR=r.map dR++[dR (k,b)]:=by simp
  have n1:(W.tie k).worth.natAbs.log2 < 1900:=by
    have:=o.w0;have:=o.w1
    have:=Nat.log2_le_self (W.tie k).worth.natAbs
    lia
  have n2:(nS (W.tie k).worth).length≤1000:=NR (jR o.w0 (by have:=o.w1;lia)) (by decide)
  have n3:Ni (W.tie k).worth.repr=nS (W.tie k).worth:=rfl
  have n4:∀y:Str,Pc++y=y:=fun y=>by
    obtain⟨c⟩:=y
    show(⟨#[]++c⟩:Str)=⟨c⟩
    rw [Array.empty_append]
  have n6:∀(e:En) (d:Nf),cw e (.d (.tuple (r.map dR))) (.d (.tuple [d]))=some (.d (.tuple (r.map dR++[d]))):=fun e d=>by
    have h1:ww e (.d (.tuple (r.map dR))) (.d (.tuple [d]))=none:=rfl
    have h2:oF e (.d (.tuple (r.map dR))) (.d (.tuple [d]))=some (.d (.tuple (r.map dR++[d]))):=by
      have:(r.map dR).length+[d].length≤1000000:=by rw [NN,List.length_singleton];lia
      unfold oF
      simp only [dU]
      rw [if_pos this]
    rw [show cw e (.d (.tuple (r.map dR))) (.d (.tuple [d]))=(ww e (.d (.tuple (r.map dR))) (.d (.tuple [d]))).or ((oF e (.d (.tuple (r.map dR))) (.d (.tuple [d]))).or (wx e (.d (.tuple (r.map dR))) (.d (.tuple [d])))) from rfl,h1,h2]
    rfl
  have n5:("kept ":Str).length≤1000:=by decide
  unfold gP
  rw [e1]
  unfold xk
  unfold bW at ai g1'
  generalize (W.ties.map fun t=>PyData.tuple [.int t.one,.int t.other,.tuple [.int t.top,.int t.bot],.int t.worth])=TT at*
  generalize r.map dR=rs at*
  generalize aA W=w at*
  cases b with
  | true=>simp? [aP,dh,bX,a9,eQ,bH,cG,lH,e6,bU,ir,vV,AX,bV,aC,f9,jS,okO,Lc.slot,cx,gh,om,ol,qy,tM,oj,yI,wO,L2.boolD,yO,g1',ai,n1,n2,n3,n4,n5,n6,dR]
  | false=>simp? [aP,dh,bX,a9,eQ,bH,cG,lH,e6,bU,ir,vV,AX,bV,aC,f9,jS,okO,Lc.slot,cx,gh,om,ol,qy,tM,oj,yI,wO,L2.boolD,yO,g1',ai,n6,dR]
theorem rM{e:En}{x a b:Str}(hx:NK x=true)(ha:NK a=true)(hb:NK b=true):uU false e (.d (.str x)) (.d (.tuple [.str a,.str b]))=some (.d (.bool (decide (a=x) || decide (b=x)))):=by
  have v:∀y:Str,OH (.str y) (.str x)=decide (y=x):=fun y=>by
    show(y==x)=decide (y=x)
    by_cases c:y=x<;>simp [c]
  unfold uU
  simp only [gE,dU,NF]
  rw [if_pos (by simp [Oa,OG,Ot,hx,ha,hb])]
  rw [if_neg (by decide),QL,QL,List.any_nil,v,v,Bool.or_false]
theorem tW{e:En}{x:Str}:xE "str" e (.d (.str x))=some (.d (.bool true)):=rfl
theorem Aw{W:aT}{r:List (Int × Bool)}{o:Option Int}{t:Str}{r':List (Int × Bool)}{o':Option Int}(b:Bool)(h:aP ([none,some (.d (.bool b))],[(.s 0,gP W r o)])=some (.str t,[(.s 0,gP W r' o')])):br ([none,some (.d (.str (Be b)))],[(.s 0,gP W r o)])=some (.str t,[(.s 0,gP W r' o')]):=by
  unfold gP at*
  cases b with
  | true=>
    have q1:=fun e=>rM (e:=e) (x:=Ni "yes") (a:=Ni "yes") (b:=Ni "no") (ax _) (ax _) (ax _)
    have q2:=FY "yes"
    have e0:Be true=Ni "yes":=rfl
    simp? [br,dh,eF,a9,eQ,bH,cG,bJ,lO,cy,dQ,m_,pZ,jn,L2.locs,aC,f9,jS,okO,Lc.slot,cx,gh,yH,e0,q1,q2,tW,h]
  | false=>
    have q1:=fun e=>rM (e:=e) (x:=Ni "no") (a:=Ni "yes") (b:=Ni "no") (ax _) (ax _) (ax _)
    have q2:=yl (a:="no") (b:="yes") (by decide+kernel)
    have e0:Be false=Ni "no":=rfl
    simp? [br,dh,eF,a9,eQ,bH,cG,bJ,lO,cy,dQ,m_,pZ,jn,L2.locs,aC,f9,jS,okO,Lc.slot,cx,gh,yH,e0,q1,q2,tW,h]
theorem Av{W:aT}(ok:W.Ok){r:List (Int × Bool)}{o:Option Int}(hr:j6 W ([],[]) r):br ([none,some (.d (.str (Ni "kept")))],[(.s 0,gP W r o)])=some (.str (lc W r),[(.s 0,gP W r o)]):=by
  have q1:=fun e=>rM (e:=e) (x:=Ni "kept") (a:=Ni "yes") (b:=Ni "no") (ax _) (ax _) (ax _)
  have q2:=yl (a:="kept") (b:="back") (by decide+kernel)
  have d1:(Ni "yes"=Ni "kept")=False:=eq_false (by decide+kernel)
  have d2:(Ni "no"=Ni "kept")=False:=eq_false (by decide+kernel)
  have q3:(Hs.any fun k=>Ni "kept"==k)=true:=by decide+kernel
  have q4:qs.lookup (Ni "kept")=some cD:=by
    unfold qs
    rw [NU,show(Ni "kept"==("may":Str))=false from by decide+kernel,NU,show(Ni "kept"==("kept":Str))=true from by decide+kernel]
  have h:=uH ok hr
  unfold gP at*
  generalize lc W r=RES at*
  simp? [br,dh,eF,a9,eQ,bH,cG,AI,wR,nv,bT,ip,bV,bR,bJ,lO,cy,dQ,m_,pZ,jn,L2.locs,aC,f9,jS,okO,Lc.slot,cx,gh,om,ol,q1,q2,q3,q4,d1,d2,tW,h]
theorem CH{W:aT}(ok:W.Ok){r:List (Int × Bool)}{o:Option Int}{k:Int}(hk:gU W k){t:Str}{o':Option Int}(h:ba ([none,some (.d (.int k))],[(.s 0,gP W r o)])=some (.str t,[(.s 0,gP W r o')])):br ([none,some (.d (.str (Lk k)))],[(.s 0,gP W r o)])=some (.str t,[(.s 0,gP W r o')]):=by
  obtain⟨k0,k1⟩:=id hk
  have wl:=ok.len
  have k1':k < 16:=by lia
  have n5:=Jm k0 k1'
  have q1:=fun e=>rM (e:=e) (x:=Lk k) (a:=Ni "yes") (b:=Ni "no") (zg k) (ax _) (ax _)
  have q2:=fun e neg=>e_ (e:=e) (neg:=neg) (a:=Lk k) (b:=Ni "back") (zg k) (ax _)
  have d0:(Lk k=Ni "back")=False:=eq_false (n5 "back" (by decide))
  have d1:(Ni "yes"=Lk k)=False:=eq_false fun z=>n5 "yes" (by decide) z.symm
  have d2:(Ni "no"=Lk k)=False:=eq_false fun z=>n5 "no" (by decide) z.symm
  have q3:(Hs.any fun x=>Lk k==x)=false:=by
    have e:∀{s:String},s∈["yes","no","may","kept","back","best","bound"]→(Lk k==Ni s)=false:=fun{s} hs=>beq_eq_false_iff_ne.mpr (n5 s hs)
    show(Lk k==Ni "may" || (Lk k==Ni "best" || (Lk k==Ni "bound" || (Lk k==Ni "kept" || false))))=false
    rw [e (by decide),e (by decide),e (by decide),e (by decide)]
    rfl
  have h2:=sP ok hk
  unfold gP at*
  generalize Lk k=x at*
  simp? [br,dh,eF,a9,eQ,bH,cG,lH,vV,AI,nv,bT,ip,bV,bR,bJ,lO,cy,dQ,m_,pZ,jn,L2.locs,aC,f9,jS,okO,Lc.slot,cx,gh,om,ol,D8,q1,q2,q3,d0,d1,d2,tW,yO,h2,h]
theorem sR{x t:Str}{ob ob':Ob}(hx:NK t=true)(h:br ([none,some (.d (.str x))],[(.s 0,ob)])=some (.str t,[(.s 0,ob')])){fs:List (Str × Nf)}(hb:ob=.dk fs)(hm:fs.lookup ("say":Str)=none):eB ([none,some (.d (.str x)),some (.d (.str t))],[(.s 0,ob)])=some (.bool true,[(.s 0,ob')]):=by
  subst hb
  have q:=fun e neg=>e_ (e:=e) (neg:=neg) (a:=t) (b:=t) hx hx
  simp? [eB,dh,wf,a9,lH,bH,bJ,lO,cy,dQ,m_,pZ,jn,L2.locs,aC,f9,jS,okO,Lc.slot,cx,gh,hm,h,q,tW]
theorem BO{W:aT}{a t:List Int}{k:Int}(h:W.may a t k=true):k∉a:=by
  simp only [aT.may,Ol,Bool.not_eq_true',List.contains_eq_mem,decide_eq_false_iff_not] at h
  intro z
  simp_all
theorem CF(ks:List Int):NK (jC ks)=true:=by
  unfold jC
  split
  · exact ax _
  · exact pO (ax _) _ fun t ht=>by
      obtain⟨k, -,rfl⟩:=M' ht
      exact qM k
theorem y8(W:aT)(r:List (Int × Bool)):NK (lc W r)=true:=fJ (fJ (CF _) (ax _)) (qM _)
theorem Bj(W:aT)(k:Int)(b:Bool):NK (xk W k b)=true:=by
  unfold xk
  split
  · exact fJ (ax _) (qM _)
  · exact ax _
structure Iv (W:aT) (r:List (Int × Bool)) (o:Option Int):Prop where
  run:j6 W ([],[]) r
  wait:∀k,o=some k→gU W k∧k∉(gW W ([],[]) r).1
def uV(r:List (Int × Bool))(o:Option Int):Ob:=.st (r.map dR) (oL o)
def Tl(W:aT)(x:Str)(r:List (Int × Bool))(o:Option Int)(r':List (Int × Bool))(o':Option Int)(t:Str):Prop:=cE ([some (.d (aA W)),none,some (.d (.str x))],[(.s 1,uV r o)])=some (.str t,[(.s 1,uV r' o')])∧eB ([none,some (.d (.str x)),some (.d (.str t))],[(.s 0,gP W r o)])=some (.bool true,[(.s 0,gP W r' o')])
theorem xO{W:aT}(ok:W.Ok){r:List (Int × Bool)}{o:Option Int}(h:Iv W r o){x:Str}(hx:Ln W False x):∃r' o' t,Iv W r' o'∧Tl W x r o r' o' t:=by
  have hl:=h.run.len ok
  have yn:∀b,∃r' o' t,Iv W r' o'∧Tl W (Be b) r o r' o' t:=fun b=>by
    cases o with
    | none=>exact⟨r,none,_,h,vR ok h.run b,sR (ax _) (Aw b (Bq b)) rfl rfl⟩
    | some k=>
      obtain⟨hk,hn⟩:=h.wait k rfl
      exact⟨r++[(k,b)],none,_,⟨h.run.snoc hk hn,fun j z=>by cases z⟩,yd ok h.run hk b,sR (Bj _ _ _) (Aw b (D6 ok hl hk b)) rfl rfl⟩
  cases hx with
  | ask hk=>
    rename_i k
    obtain⟨g,hg⟩:∃g,g=(o.isNone&&W.may (gW W ([],[]) r).1 (gW W ([],[]) r).2 k):=⟨_,rfl⟩
    refine⟨r,if g=true then some k else o,if g=true then Ni "asked" else Ni "NoAsk",⟨h.run,fun j z=>?_⟩,ye ok h.run hk g hg,sR (by split<;>exact ax _) (CH ok hk (D7 ok h.run hk g hg)) rfl rfl⟩
    by_cases c:g=true
    · rw [if_pos c] at z
      cases z
      rw [c] at hg
      exact⟨hk,BO (Ro.mp hg.symm).2⟩
    · rw [if_neg c] at z
      exact h.wait j z
  | yes=>exact yn true
  | no=>exact yn false
  | back z=>exact z.elim
theorem qF{W:aT}(ok:W.Ok){r:List (Int × Bool)}{o:Option Int}(h:Iv W r o):Tl W (Ni "kept") r o r o (lc W r):=⟨vS ok h.run,sR (y8 W r) (Av ok h.run) rfl rfl⟩
theorem AQ(a b:Ob):Od (Lc.s 5) [(Lc.s 5,a),(Lc.s 4,b)]=some a:=rfl
theorem AO(a b:Ob):Od (Lc.s 4) [(Lc.s 5,a),(Lc.s 4,b)]=some b:=rfl
theorem AS(a b o:Ob):pL (.s 5) o [(Lc.s 5,a),(Lc.s 4,b)]=[(Lc.s 5,o),(Lc.s 4,b)]:=rfl
theorem AR(a b o:Ob):pL (.s 4) o [(Lc.s 5,a),(Lc.s 4,b)]=[(Lc.s 5,a),(Lc.s 4,o)]:=rfl
theorem oE{W1:List Nat}{g:FG}{f:XS}(P:Nat→EX→Prop):∀(items:List Nf) (k:Nat) (x:EX),(∀i d x,items[i]?=some d→P (k+i) x→∃e1 x2,jS W1 x.2=true∧g d x.1=some e1∧okO x.2 e1=true∧f (e1,x.2)=some (.nx x2)∧P (k+i+1) x2)→P k x→∃x',tP W1 g f items x=some (.nx x')∧P (k+items.length) x'
  | [],k,x,_,h=>⟨x,rfl,h⟩
  | d::r,k,x,hs,h=>by
    obtain⟨e1,x2,h1,h2,h3,h4,h5⟩:=hs 0 d x rfl h
    obtain⟨x',h6,h7⟩:=oE P r (k+1) x2 (fun i y x hy hp=>by
      have:=hs (i+1) y x (by simpa using hy) (by rw [show k+(i+1)=k+1+i by lia];exact hp)
      rw [show k+(i+1)+1=k+1+i+1 by lia] at this
      exact this) h5
    refine⟨x',?_,by rw [OO,show k+(r.length+1)=k+1+r.length by lia];exact h7⟩
    unfold tP
    simp only [h1,h2,h3,h4,NF,if_true]
    exact h6
def m5(ns ds:List Int)(v2:Option Sv)(W:aT)(v6 v7:Option Sv):En:=[some (.d (.list (ns.map .int))),some (.l (ds.map .int)),v2,some (.d (aA W)),none,none,v6,v7]
theorem Bz{W:aT}(ok:W.Ok){ns ds:List Int}(hd:jp ds){v2 v6 v7:Option Sv}{r:List (Int × Bool)}{o:Option Int}(h:Iv W r o):∃ds' v7' r' o',GB (m5 ns ds v2 W v6 v7,[(.s 5,uV r o),(.s 4,gP W r o)])=some (.nx (m5 ns ds' v2 W v6 v7',[(.s 5,uV r' o'),(.s 4,gP W r' o')]))∧jp ds'∧Iv W r' o':=by
  obtain⟨x,hx,ht⟩:=F8 ok hd (menu:=[Ni "ask",Ni "yes",Ni "ask",Ni "yes",Ni "no"]) (by decide+kernel) (by decide)
  rw [show(Ni "back"∈[Ni "ask",Ni "yes",Ni "ask",Ni "yes",Ni "no"])=False from eq_false (by decide+kernel)] at hx
  obtain⟨r',o',t,h',p1,p2⟩:=xO ok h hx
  obtain⟨q1,q2⟩:=qF ok h'
  refine⟨ds.tail,some (.d (.str x)),r',o',?_,(fun x hx=>hd x (List.mem_of_mem_tail hx)),h'⟩
  simp only [NP,Om] at ht
  unfold m5
  generalize gP W r o=D0 at*
  generalize gP W r' o'=D1 at*
  generalize uV r o=S0 at*
  generalize uV r' o'=S1 at*
  generalize aA W=w at*
  generalize ns.map PyData.int=N at*
  generalize ds.tail.map PyData.int=d1 at*
  generalize ds.map PyData.int=d0 at*
  simp? [GB,a9,gp,eQ,bH,cG,jd,bU,bJ,qj,cy,dQ,m_,pZ,jn,L2.locs,aC,jS,okO,Lc.slot,cx,AQ,AO,AS,AR,L2.boolD,ht,p1,p2,q1,q2]
def j_(ns ds:List Int)(v2 v3 v6 v7:Option Sv):En:=[some (.d (.list (ns.map .int))),some (.l (ds.map .int)),v2,v3,none,none,v6,v7]
def Bd(ob:je):Prop:=ob=[]∨∃a b,ob=[(Lc.s 5,a),(Lc.s 4,b)]
theorem G0{W:aT}:lc W []=Ni "none 0":=by
  show jC []++Ni " "++nS 0=_
  decide+kernel
theorem By{W:aT}(ok:W.Ok){ns ds:List Int}(hd:jp ds){v2 v6 v7:Option Sv}:∃ds' v6' v7' r' o',mL [6] Je (aj 6) GB (m5 ns ds v2 W v6 v7,[(.s 5,uV [] none),(.s 4,gP W [] none)])=some (.nx (m5 ns ds' v2 W v6' v7',[(.s 5,uV r' o'),(.s 4,gP W r' o')]))∧jp ds':=by
  obtain⟨x',h1,d,w6,w7,r,o,rfl,hd', -⟩:=oE (W1:=[6]) (g:=aj 6) (f:=GB) (fun _ x=>∃d w6 w7 r o,x=(m5 ns d v2 W w6 w7,[(.s 5,uV r o),(.s 4,gP W r o)])∧jp d∧Iv W r o) (b5 0 40) 0 (m5 ns ds v2 W v6 v7,[(.s 5,uV [] none),(.s 4,gP W [] none)]) (fun i d x hx hI=>by
    obtain⟨ds1,w6,w7,r,o,rfl,hd1,hi⟩:=hI
    obtain⟨ds2,w7',r',o',h2,hd2,hi2⟩:=Bz ok (ns:=ns) hd1 (v2:=v2) (v6:=some (.d d)) (v7:=w7) hi
    exact⟨m5 ns ds1 v2 W (some (.d d)) w7,_,rfl,rfl,rfl,h2,ds2,_,w7',r',o',rfl,hd2,hi2⟩) ⟨ds,v6,v7,[],none,rfl,hd,⟨trivial,fun k z=>by cases z⟩⟩
  have hi:Je (m5 ns ds v2 W v6 v7)=some (b5 0 40,[],m5 ns ds v2 W v6 v7):=ef (n:=40) rfl (by decide) (by decide)
  refine⟨d,w6,w7,r,o,?_,hd'⟩
  unfold mL
  rw [hi]
  exact h1
theorem zI{ns ds:List Int}(hd:jp ds){v2 v3 v6 v7:Option Sv}{ob:je}(ho:Bd ob):∃ds' v3' v6' v7' ob',GC (j_ ns ds v2 v3 v6 v7,ob)=some (.nx (j_ ns ds' v2 v3' v6' v7',ob'))∧jp ds'∧Bd ob':=by
  obtain⟨W,d1,t1,hd1,ok, -, -⟩:=Ic ds 12 16 hd (by decide) (by decide) (by decide) (by decide)
  obtain⟨d2,w6,w7,r,o,h2,hd2⟩:=By ok (ns:=ns) hd1 (v2:=v2) (v6:=v6) (v7:=v7)
  have m1:=BP (aA W)
  have k1:eB ([none,some (.d (.str (Ni "kept"))),some (.d (.str (Ni "none 0")))],[(.s 0,gP W [] none)])=some (.bool true,[(.s 0,gP W [] none)]):=by
    have:=(qF ok (r:=[]) (o:=none) ⟨trivial,fun k z=>by cases z⟩).2
    rwa [G0] at this
  refine⟨d2,some (.d (aA W)),w6,w7,[(.s 5,uV r o),(.s 4,gP W r o)],?_,hd2,.inr ⟨_,_,rfl⟩⟩
  have e1:Ob.dk (wq (aA W) (.tuple []) .none)=gP W [] none:=rfl
  have e2:Ob.st [] []=uV [] none:=rfl
  rw [e1] at m1
  have hw:jS [3] ob=true:=by
    rcases ho with rfl | ⟨a,b,rfl⟩<;>rfl
  have hok:∀e:En,e[4]?=some none→e[5]?=some none→okO ob e=true:=fun e h4 h5=>by
    rcases ho with rfl | ⟨a,b,rfl⟩
    · rfl
    · simp [okO,Lc.slot,h4,h5]
  have f4:∀a,ng 5 ((Lc.s 4,a)::ng 4 ob)=[(Lc.s 4,a)]:=fun a=>by
    rcases ho with rfl | ⟨a',b,rfl⟩<;>rfl
  unfold GC
  have s1:gp [3] (bi 3 (dr 3 qJ (aa (ab 1) (aa (vC (.int 12)) (aa (vC (.int 16)) ah))))) (j_ ns ds v2 v3 v6 v7,ob)=some (.nx (m5 ns d1 v2 W v6 v7,ob)):=by
    have h4:(m5 ns d1 v2 W v6 v7)[4]?=some none:=rfl
    have h5:(m5 ns d1 v2 W v6 v7)[5]?=some none:=rfl
    have hq:=hok _ h4 h5
    unfold m5 at*
    unfold j_
    generalize aA W=w at*
    generalize ns.map PyData.int=N at*
    generalize d1.map PyData.int=d1' at*
    generalize ds.map PyData.int=d0 at*
    simp? [gp,hw,t1,hq]
  have s2:As 4 bD (aC (ab 3)) (m5 ns d1 v2 W v6 v7,ob)=some (.nx (m5 ns d1 v2 W v6 v7,(.s 4,gP W [] none)::ng 4 ob)):=by
    have h4:(m5 ns d1 v2 W v6 v7)[4]?=some none:=rfl
    have h5:(m5 ns d1 v2 W v6 v7)[5]?=some none:=rfl
    have hq:=hok _ h4 h5
    have hv:(ab 3) (m5 ns d1 v2 W v6 v7)=some (.d (aA W),m5 ns d1 v2 W v6 v7):=rfl
    unfold As aC
    rw [hv]
    simp only [NF,gO,hq,if_true]
    rw [m1]
    rfl
  have s3:Au 5 (m5 ns d1 v2 W v6 v7,(.s 4,gP W [] none)::ng 4 ob)=some (.nx (m5 ns d1 v2 W v6 v7,[(.s 5,uV [] none),(.s 4,gP W [] none)])):=by
    unfold Au
    refine(if_pos (show 5 < 8 by decide)).trans ?_
    show some (Gu.nx (_,(Lc.s 5,_)::ng 5 ((Lc.s 4,gP W [] none)::ng 4 ob)))=_
    rw [f4]
    rfl
  have s4:eQ (jd (bU (bJ 3 eB (qj 4 (cy (aC (vC (.str ("kept":Str)))) (cy (aC (vC (.str ("none 0":Str)))) dQ)))))) (bH (aC (vC (.bool false)))) cG (m5 ns d1 v2 W v6 v7,[(.s 5,uV [] none),(.s 4,gP W [] none)])=some (.nx (m5 ns d1 v2 W v6 v7,[(.s 5,uV [] none),(.s 4,gP W [] none)])):=by
    unfold m5
    generalize gP W [] none=D0 at*
    generalize uV [] none=S0 at*
    generalize aA W=w at*
    generalize ns.map PyData.int=N at*
    generalize d1.map PyData.int=d1' at*
    simp? [eQ,cG,jd,bU,bJ,qj,cy,dQ,m_,pZ,jn,L2.locs,aC,jS,okO,Lc.slot,cx,AQ,AO,AS,AR,L2.boolD,k1]
  have sq:∀{f g:XS} {x x1:EX},f x=some (.nx x1)→a9 f g x=g x1:=fun{f g x x1} h=>by
    unfold a9
    rw [h]
    rfl
  rw [sq s1,sq s2,sq s3,sq s4]
  exact h2
theorem zc(ns:List Int)(hl:ns.length≤63):∃as',ud [.d (.list (ns.map .int))]=some (.d (.bool true),as'):=by
  obtain⟨ds,td,hd⟩:=CS ns hl
  obtain⟨x',h1,d,v2,v3,v6,v7,ob,rfl, -,htw⟩:=oE (W1:=[2]) (g:=aj 2) (f:=GC) (fun _ x=>∃d v2 v3 v6 v7 ob,x=(j_ ns d v2 v3 v6 v7,ob)∧jp d∧Bd ob) (b5 0 3) 0 (j_ ns ds none none none none,[]) (fun i d x hx hI=>by
    obtain⟨ds1,v2,v3,v6,v7,ob,rfl,hd1,ho⟩:=hI
    obtain⟨ds2,v3',v6',v7',ob',h2,hd2,ho2⟩:=zI (ns:=ns) hd1 (v2:=some (.d d)) (v3:=v3) (v6:=v6) (v7:=v7) ho
    exact⟨j_ ns ds1 (some (.d d)) v3 v6 v7,_,by rcases ho with rfl | ⟨a,b,rfl⟩<;>rfl,rfl,by rcases ho with rfl | ⟨a,b,rfl⟩<;>rfl,h2,ds2,_,_,_,_,_,rfl,hd2,ho2⟩) ⟨ds,none,none,none,none,[],rfl,hd,.inl rfl⟩
  have hi:Jf (j_ ns ds none none none none)=some (b5 0 3,[],j_ ns ds none none none none):=ef (n:=3) rfl (by decide) (by decide)
  have hfor:mL [2] Jf (aj 2) GC (j_ ns ds none none none none,[])=some (.nx (j_ ns d v2 v3 v6 v7,ob)):=by
    unfold mL
    rw [hi]
    exact h1
  have hfl:ob.filter (fun p=>decide (p.1.slot < 1))=[]:=by rcases htw with rfl | ⟨a,b,rfl⟩<;>rfl
  have hok:okO ob (j_ ns d v2 v3 v6 v7)=true:=by rcases htw with rfl | ⟨a,b,rfl⟩<;>rfl
  have hb:rq ([some (.d (.list (ns.map .int))),none,none,none,none,none,none,none],[])=some (.rt (.bool true) (j_ ns d v2 v3 v6 v7,ob)):=by
    have s1:gp [1] (bi 1 (dr 1 jP (aa (ab 0) ah))) ([some (.d (.list (ns.map .int))),none,none,none,none,none,none,none],[])=some (.nx (j_ ns ds none none none none,[])):=by
      unfold j_
      generalize ns.map PyData.int=N at*
      generalize ds.map PyData.int=d0 at*
      simp? [gp,jS,okO,td]
    have sq:∀{f g:XS} {x x1:EX},f x=some (.nx x1)→a9 f g x=g x1:=fun{f g x x1} h=>by
      unfold a9
      rw [h]
      rfl
    unfold rq
    rw [sq s1,sq hfor]
    unfold bH aC
    simp only [vC,NF,gO,hok,if_true,Ou]
  refine⟨[.d (.list (ns.map .int))],?_⟩
  have hm:l_ ([some (.d (.list (ns.map .int)))],[])=some (.bool true,[]):=by
    unfold l_ dh
    rw [if_pos ⟨rfl,rfl⟩]
    show(rq ([some (.d (.list (ns.map .int))),none,none,none,none,none,none,none],[])).bind _=_
    rw [hb]
    dsimp only [NF]
    rw [hfl]
    rfl
  show zl l_ [.d (.list (ns.map .int))]=_
  unfold zl
  refine(if_pos (show xx [some (.d (.list (ns.map .int)))]=true from rfl)).trans ?_
  show(l_ ([some (.d (.list (ns.map .int)))],[])).map _=_
  rw [hm]
  rfl
theorem Dr{P:List Kz→Prop}(h:∀a0,P [a0]):∀us:List Kz,us.length=1→P us:=fun us e=>match us,e with | [a0],_=>h a0
theorem r8{P:List Kz→Prop}(h:∀a0 a1,P [a0,a1]):∀us:List Kz,us.length=2→P us:=fun us e=>match us,e with | [a0,a1],_=>h a0 a1
theorem Bb{P:List Kz→Prop}(h:∀a0 a1 a2,P [a0,a1,a2]):∀us:List Kz,us.length=3→P us:=fun us e=>match us,e with | [a0,a1,a2],_=>h a0 a1 a2
theorem JS{P:List Kz→Prop}(h:∀a0 a1 a2 a3,P [a0,a1,a2,a3]):∀us:List Kz,us.length=4→P us:=fun us e=>match us,e with | [a0,a1,a2,a3],_=>h a0 a1 a2 a3
abbrev hQ(w:Nj)(n:Str)(s:Nm)(a c:xM)(d p:Kz):Prop:=(OR (kK w.params) NM n,Od a (kK w.params),Qi (kK w.params) (.ref c) n,Po (kK w.params) (.ref a))=(some (some (.ref a)),some (kF n s d p c),true,true)
theorem hm{w:Nj}{h:Nk}{mg:Str→Option Kz}{n:Str}{s:Nm}{a c:xM}{d p:Kz}{ps:List Str}(X:(kK w.params).In h)(G:h.Ns NM mg)
    (e:hQ w n s a c d p)
    (b:∀(kV doc pm:Kz) (an:Option xM) (cdv ct:Kz) (us:List Kz),us.length=ps.length→bindArgs (OA n n (cY s) (cj s) (ag s) .none kV doc pm an cdv ct) ⟨us,[]⟩=pure (ps.zip us)):
    dA (kK w.params) mg n s a (OA n n (cY s) (cj s) (ag s) .none .none d p none (.ref c) .none) ps:=Ec X G (congrArg (·.1) e) (congrArg (·.2.1) e) (congrArg (·.2.2.1) e) (congrArg (·.2.2.2) e) b
theorem rW(w:Nj):hQ w "things_of" cI 135 134 (.none) Ba:=by kernel_rfl
theorem rT(w:Nj):hQ w "many_asks" eS 140 139 (.none) Ba:=by kernel_rfl
theorem lg(w:Nj):hQ w "bears_one_more" b6 147 146 (.none) Ba:=by kernel_rfl
theorem vq(w:Nj):hQ w "may_ask" fH 152 151 (.none) Ba:=by kernel_rfl
theorem m7(w:Nj):hQ w "stand_behind" cH 159 158 (.none) Ba:=by kernel_rfl
theorem rV(w:Nj):hQ w "number_of" eT 202 201 (.none) Iw:=by kernel_rfl
theorem t_(w:Nj):hQ w "row_line" er 214 213 (.none) Iw:=by kernel_rfl
theorem vo(w:Nj):hQ w "kept_of" fF 219 218 (.none) Iy:=by kernel_rfl
theorem qc(w:Nj):hQ w "worth_kept" dP 224 223 (.none) Iy:=by kernel_rfl
theorem vm(w:Nj):hQ w "asks_at" ig 229 228 (.none) JQ:=by kernel_rfl
theorem m8(w:Nj):hQ w "stand_of_run" b7 279 278 (.none) sX:=by kernel_rfl
theorem t9(w:Nj):hQ w "may_line" gu 291 290 (.none) sX:=by kernel_rfl
theorem rS(w:Nj):hQ w "kept_line" eR 310 309 (.none) sX:=by kernel_rfl
theorem p_(w:Nj):hQ w "tie_to_ask" dO 317 316 (.none) sX:=by kernel_rfl
theorem y_(w:Nj):hQ w "_law_mixed" lF 374 373 (.none) hU:=by kernel_rfl
theorem y9(w:Nj):hQ w "_law_draws" lE 381 380 (.none) hU:=by kernel_rfl
theorem BH(w:Nj):hQ w "_law_next" ku 388 387 (.none) hU:=by kernel_rfl
theorem El(w:Nj):hQ w "_law_gcd" ux 395 394 (.none) hU:=by kernel_rfl
theorem Em(w:Nj):hQ w "_law_low" uy 402 401 (.none) hU:=by kernel_rfl
theorem xN(w:Nj):hQ w "_law_chance" jE 409 408 (.none) hU:=by kernel_rfl
theorem y'(w:Nj):hQ w "_law_worth" lG 416 415 (.none) hU:=by kernel_rfl
theorem BI(w:Nj):hQ w "_law_ties" pA 423 422 (.none) hU:=by kernel_rfl
theorem Ep(w:Nj):hQ w "_law_web" uA 430 429 (.none) hU:=by kernel_rfl
theorem vk(w:Nj):hQ w "_law_asks_of" ie 435 434 (.none) hU:=by kernel_rfl
theorem Eo(w:Nj):hQ w "_law_may" qQ 442 441 (.none) hU:=by kernel_rfl
theorem xK(w:Nj):hQ w "_law_behind" jD 449 448 (.none) hU:=by kernel_rfl
theorem vj(w:Nj):hQ w "_law_askable" ic 454 453 (.none) hU:=by kernel_rfl
theorem BF(w:Nj):hQ w "_law_kept" pw 459 458 (.none) hU:=by kernel_rfl
theorem t5(w:Nj):hQ w "_law_stand_of" gr 466 465 (.none) hU:=by kernel_rfl
theorem tZ(w:Nj):hQ w "_law_row_text" gq 471 470 (.none) hU:=by kernel_rfl
theorem Ek(w:Nj):hQ w "_law_due" uw 476 475 (.none) hU:=by kernel_rfl
theorem BG(w:Nj):hQ w "_law_line" pz 483 482 (.none) hU:=by kernel_rfl
theorem BJ(w:Nj):hQ w "_law_told" pB 490 489 (.none) hU:=by kernel_rfl
theorem Er(w:Nj):hQ w "law" pF 497 496 (.none) hU:=by kernel_rfl
theorem all_mk{l:W.OpenLaw}{w:Nj}{h:Nk}{mg:Str→Option Kz}{fa:xM}(X:(kK w.params).In h)(G:h.Ns NM mg)(hfa:mg "law"=some (.ref fa)):
    ∃fd:Nx,(∀(s:Nc) (v:Kz),BindsTo s fd ⟨[v],[]⟩ [("_law_script",v)])∧∀base:Nk,(kK w.params).In base→base.Ns NM mg→aG l.prog w (kK w.params) mg base cc 9 fa fd ["_law_script"] (dw (kK w.params) 1 ud):=by
  have e:=hfa.symm.trans (Pe X G (show OR (kK w.params) NM "law"=some (some (.ref 497)) by kernel_rfl))
  cases e
  have nn:∀{n:Str},OR (kK w.params) NM n=some none→mg n=none:=fun e=>W.mg_none_of X G e
  have T:cf mg:=⟨nn (by kernel_rfl),nn (by kernel_rfl),nn (by kernel_rfl),nn (by kernel_rfl),nn (by kernel_rfl),nn (by kernel_rfl),nn (by kernel_rfl),nn (by kernel_rfl),nn (by kernel_rfl),nn (by kernel_rfl),nn (by kernel_rfl),nn (by kernel_rfl),nn (by kernel_rfl),nn (by kernel_rfl),nn (by kernel_rfl),nn (by kernel_rfl),nn (by kernel_rfl),nn (by kernel_rfl)⟩
  have KM:=hm (ps:=["web","tie"]) X G (rW w) fun _ _ _ _ _ _=>r8 fun _ _=>rfl
  have K_:=hm (ps:=["web","asked","thing"]) X G (rT w) fun _ _ _ _ _ _=>Bb fun _ _ _=>rfl
  have KN:=hm (ps:=["web","stand","thing"]) X G (lg w) fun _ _ _ _ _ _=>Bb fun _ _ _=>rfl
  have K1:=hm (ps:=["web","stand","tie"]) X G (vq w) fun _ _ _ _ _ _=>Bb fun _ _ _=>rfl
  have KQ:=hm (ps:=["web","stand","tie","truth"]) X G (m7 w) fun _ _ _ _ _ _=>JS fun _ _ _ _=>rfl
  have K':=hm (ps:=["word"]) X G (rV w) fun _ _ _ _ _ _=>Dr fun _=>rfl
  have KW:=hm (ps:=["row"]) X G (t_ w) fun _ _ _ _ _ _=>Dr fun _=>rfl
  have K6:=hm (ps:=["run"]) X G (vo w) fun _ _ _ _ _ _=>Dr fun _=>rfl
  have K2:=hm (ps:=["web","run"]) X G (qc w) fun _ _ _ _ _ _=>r8 fun _ _=>rfl
  have Lh:=hm (ps:=["web","stand"]) X G (vm w) fun _ _ _ _ _ _=>r8 fun _ _=>rfl
  have KJ:=hm (ps:=["web","run"]) X G (m8 w) fun _ _ _ _ _ _=>r8 fun _ _=>rfl
  have KZ:=hm (ps:=["web","run"]) X G (t9 w) fun _ _ _ _ _ _=>r8 fun _ _=>rfl
  have KP:=hm (ps:=["web","run"]) X G (rS w) fun _ _ _ _ _ _=>r8 fun _ _=>rfl
  have KR:=hm (ps:=["web","line"]) X G (p_ w) fun _ _ _ _ _ _=>r8 fun _ _=>rfl
  have Ly:=hm (ps:=["_law_cell","_law_k"]) X G (y_ w) fun _ _ _ _ _ _=>r8 fun _ _=>rfl
  have LA:=hm (ps:=["_law_script"]) X G (y9 w) fun _ _ _ _ _ _=>Dr fun _=>rfl
  have KO:=hm (ps:=["_law_drawn"]) X G (BH w) fun _ _ _ _ _ _=>Dr fun _=>rfl
  have Me:=hm (ps:=["_law_one","_law_other"]) X G (El w) fun _ _ _ _ _ _=>r8 fun _ _=>rfl
  have L8:=hm (ps:=["_law_top","_law_bottom"]) X G (Em w) fun _ _ _ _ _ _=>r8 fun _ _=>rfl
  have Lq:=hm (ps:=["_law_number","_law_kind"]) X G (xN w) fun _ _ _ _ _ _=>r8 fun _ _=>rfl
  have LJ:=hm (ps:=["_law_number","_law_kind"]) X G (y' w) fun _ _ _ _ _ _=>r8 fun _ _=>rfl
  have LV:=hm (ps:=["_law_drawn","_law_things","_law_many"]) X G (BI w) fun _ _ _ _ _ _=>Bb fun _ _ _=>rfl
  have Ma:=hm (ps:=["_law_drawn","_law_most","_law_ties_here"]) X G (Ep w) fun _ _ _ _ _ _=>Bb fun _ _ _=>rfl
  have Li:=hm (ps:=["_law_web_here","_law_asked","_law_thing"]) X G (vk w) fun _ _ _ _ _ _=>Bb fun _ _ _=>rfl
  have LU:=hm (ps:=["_law_web_here","_law_stand","_law_tie"]) X G (Eo w) fun _ _ _ _ _ _=>Bb fun _ _ _=>rfl
  have Lr:=hm (ps:=["_law_web_here","_law_stand","_law_tie","_law_truth"]) X G (xK w) fun _ _ _ _ _ _=>JS fun _ _ _ _=>rfl
  have Ld:=hm (ps:=["_law_web_here","_law_stand"]) X G (vj w) fun _ _ _ _ _ _=>r8 fun _ _=>rfl
  have LO:=hm (ps:=["_law_web_here","_law_run"]) X G (BF w) fun _ _ _ _ _ _=>r8 fun _ _=>rfl
  have K8:=hm (ps:=["_law_web_here","_law_run"]) X G (t5 w) fun _ _ _ _ _ _=>r8 fun _ _=>rfl
  have KY:=hm (ps:=["_law_numbers"]) X G (tZ w) fun _ _ _ _ _ _=>Dr fun _=>rfl
  have Mb:=hm (ps:=["_law_web_here","_law_state","_law_line_here"]) X G (Ek w) fun _ _ _ _ _ _=>Bb fun _ _ _=>rfl
  have LQ:=hm (ps:=["_law_drawn","_law_web_here","_law_menu"]) X G (BG w) fun _ _ _ _ _ _=>Bb fun _ _ _=>rfl
  have LI:=hm (ps:=["_law_desk","_law_line_here","_law_due_here"]) X G (BJ w) fun _ _ _ _ _ _=>Bb fun _ _ _=>rfl
  have MY:=hm (ps:=["_law_script"]) X G (Er w) fun _ _ _ _ _ _=>Dr fun _=>rfl
  have F_Desk___init__:=ka (K:=(kK w.params)) (x:="__init__") (qual:="Desk.__init__") (st:=c9) (f:=332) (oc:=.type "function") (od:=none) (an:=none) (osl:=#[]) (kV:=.none) (doc:=.none) (pm:=sX) (cdv:=.ref 331) (ct:=.none) (by kernel_rfl) (by kernel_rfl) (by kernel_rfl)
  have B_Desk___init__:=sV.binds F_Desk___init__ (ps:=["self","web"]) fun _ _ _ _ _ _=>r8 fun _ _=>rfl
  have F_Desk_say:=ka (K:=(kK w.params)) (x:="say") (qual:="Desk.say") (st:=i5) (f:=339) (oc:=.type "function") (od:=none) (an:=none) (osl:=#[]) (kV:=.none) (doc:=.none) (pm:=sX) (cdv:=.ref 338) (ct:=.none) (by kernel_rfl) (by kernel_rfl) (by kernel_rfl)
  have B_Desk_say:=sV.binds F_Desk_say (ps:=["self","line"]) fun _ _ _ _ _ _=>r8 fun _ _=>rfl
  have me_Desk_say:lS (kK w.params) 363 "say" 339:=⟨by kernel_rfl,by kernel_rfl,by kernel_rfl⟩
  have F_Desk_take_ask:=ka (K:=(kK w.params)) (x:="take_ask") (qual:="Desk.take_ask") (st:=c_) (f:=346) (oc:=.type "function") (od:=none) (an:=none) (osl:=#[]) (kV:=.none) (doc:=.none) (pm:=sX) (cdv:=.ref 345) (ct:=.none) (by kernel_rfl) (by kernel_rfl) (by kernel_rfl)
  have B_Desk_take_ask:=sV.binds F_Desk_take_ask (ps:=["self","tie"]) fun _ _ _ _ _ _=>r8 fun _ _=>rfl
  have me_Desk_take_ask:lS (kK w.params) 363 "take_ask" 346:=⟨by kernel_rfl,by kernel_rfl,by kernel_rfl⟩
  have F_Desk_take_answer:=ka (K:=(kK w.params)) (x:="take_answer") (qual:="Desk.take_answer") (st:=cq) (f:=353) (oc:=.type "function") (od:=none) (an:=none) (osl:=#[]) (kV:=.none) (doc:=.none) (pm:=sX) (cdv:=.ref 352) (ct:=.none) (by kernel_rfl) (by kernel_rfl) (by kernel_rfl)
  have B_Desk_take_answer:=sV.binds F_Desk_take_answer (ps:=["self","truth"]) fun _ _ _ _ _ _=>r8 fun _ _=>rfl
  have me_Desk_take_answer:lS (kK w.params) 363 "take_answer" 353:=⟨by kernel_rfl,by kernel_rfl,by kernel_rfl⟩
  have F_Desk_take_back:=ka (K:=(kK w.params)) (x:="take_back") (qual:="Desk.take_back") (st:=cM) (f:=360) (oc:=.type "function") (od:=none) (an:=none) (osl:=#[]) (kV:=.none) (doc:=.none) (pm:=sX) (cdv:=.ref 359) (ct:=.none) (by kernel_rfl) (by kernel_rfl) (by kernel_rfl)
  have B_Desk_take_back:=sV.binds F_Desk_take_back (ps:=["self"]) fun _ _ _ _ _ _=>Dr fun _=>rfl
  have me_Desk_take_back:lS (kK w.params) 363 "take_back" 360:=⟨by kernel_rfl,by kernel_rfl,by kernel_rfl⟩
  have lG_47:Od 47 (kK w.params)=some (kT [.int (0) 233,.int (1) 234] 0):=by kernel_rfl
  have m_ZERO:=Pe X G (show OR (kK w.params) NM "ZERO"=some (some (.ref 47)) by kernel_rfl)
  have c_ZERO:∀F,DA (kK w.params) F (.tuple [.int (0),.int (1)]) (.ref 47):=fun F=>by simp only [DA,aQ];exact⟨47,[V.int (0),V.int (1)],rfl,.inr ⟨_,_,_,lG_47,rfl,rfl,rfl,(by show 2≤Ny;decide),(.cons ⟨_,rfl⟩ (.cons ⟨_,rfl⟩ .nil))⟩,⟨_,_,rfl,rfl,⟨_,_,rfl,rfl,rfl⟩⟩⟩
  have lG_128:Od 128 (kK w.params)=some (kT [.ref 126,.ref 127] 0):=by kernel_rfl
  have lG_126:Od 126 (kK w.params)=some (kT [] 0):=by kernel_rfl
  have lG_127:Od 127 (kK w.params)=some (kT [] 0):=by kernel_rfl
  have m_FIRST_STAND:=Pe X G (show OR (kK w.params) NM "FIRST_STAND"=some (some (.ref 128)) by kernel_rfl)
  have c_FIRST_STAND:∀F,DA (kK w.params) F (.tuple [.tuple [],.tuple []]) (.ref 128):=fun F=>by simp only [DA,aQ];exact⟨128,[V.ref 126,V.ref 127],rfl,.inr ⟨_,_,_,lG_128,rfl,rfl,rfl,(by show 2≤Ny;decide),(.cons rfl (.cons rfl .nil))⟩,⟨_,_,rfl,⟨126,[],rfl,.inr ⟨_,_,_,lG_126,rfl,rfl,rfl,(by show 0≤Ny;decide),.nil⟩,rfl⟩,⟨_,_,rfl,⟨127,[],rfl,.inr ⟨_,_,_,lG_127,rfl,rfl,rfl,(by show 0≤Ny;decide),.nil⟩,rfl⟩,rfl⟩⟩⟩
  have m_END:=Pe X G (show OR (kK w.params) NM "END"=some (some (.int (-1) 384)) by kernel_rfl)
  have m_MOST_TIES_OF_BOUND:=Pe X G (show OR (kK w.params) NM "MOST_TIES_OF_BOUND"=some (some (.int (10) 405)) by kernel_rfl)
  have m_MOST_FIGURES:=Pe X G (show OR (kK w.params) NM "MOST_FIGURES"=some (some (.int (4) 441)) by kernel_rfl)
  have m_MOST_TIES_OF_TABLE:=Pe X G (show OR (kK w.params) NM "MOST_TIES_OF_TABLE"=some (some (.int (7) 513)) by kernel_rfl)
  have mQ:=Pe X G (show OR (kK w.params) NM "QUESTIONS"=some (some (.ref 318)) by kernel_rfl)
  have TQ:Gk (kK w.params) w 318 [("may",291),("best",296),("bound",303),("kept",310)]:=⟨⟨[kE w.params "may" 616 (.ref 291),kE w.params "best" 617 (.ref 296),kE w.params "bound" 618 (.ref 303),kE w.params "kept" 619 (.ref 310)].toArray,4,by kernel_rfl,(.cons ⟨rfl,⟨_,rfl⟩,rfl⟩ (.cons ⟨rfl,⟨_,rfl⟩,rfl⟩ (.cons ⟨rfl,⟨_,rfl⟩,rfl⟩ (.cons ⟨rfl,⟨_,rfl⟩,rfl⟩ .nil))))⟩,by decide+kernel,rfl⟩
  have hks:[(("may":Str),(291:xM)),(("best":Str),(296:xM)),(("bound":Str),(303:xM)),(("kept":Str),(310:xM))].map (·.1)=Hs:=rfl
  have a_may:Od ("may":Str) [(("may":Str),(291:xM)),(("best":Str),(296:xM)),(("bound":Str),(303:xM)),(("kept":Str),(310:xM))]=some 291:=rfl
  have a_kept:Od ("kept":Str) [(("may":Str),(291:xM)),(("best":Str),(296:xM)),(("bound":Str),(303:xM)),(("kept":Str),(310:xM))]=some 310:=rfl
  have cls:pY (kK w.params) 363:=⟨by kernel_rfl,by kernel_rfl,by kernel_rfl,by kernel_rfl⟩
  have na_web:bx (kK w.params) 363 "web":=show OD (kK w.params) (.ref 363) "web"=some none by kernel_rfl
  have na_run:bx (kK w.params) 363 "run":=show OD (kK w.params) (.ref 363) "run"=some none by kernel_rfl
  have na_waiting:bx (kK w.params) 363 "waiting":=show OD (kK w.params) (.ref 363) "waiting"=some none by kernel_rfl
  have MK:Mk (kK w.params) 363 332:=⟨by kernel_rfl,by kernel_rfl,by kernel_rfl,by kernel_rfl⟩
  have mC:=Pe X G (show OR (kK w.params) NM "Desk"=some (some (.ref 363)) by kernel_rfl)
  refine⟨OA "law" "law" (cY pF) (cj pF) (ag pF) .none .none (.none) hU none (.ref 496) .none,fun s v=>.of_eq rfl,fun base _ _=>?_⟩
  have cl:∀{f:xM} {fd:Nx} {n:Str} {s:Nm} {ps:List Str} {lv k:Nat} {m:FM},dA (kK w.params) mg n s f fd ps→aG l.prog w (kK w.params) mg base cc lv f fd ps (dw (kK w.params) k m)→Cl l.prog w (kK w.params) mg base n s ps lv k m:=fun h g=>⟨_,_,h,g⟩
  have z_things_of:=cl KM (sy KM T)
  have z_many_asks:=cl K_ (sv K_ T z_things_of)
  have z_bears_one_more:=cl KN (lq KN T z_many_asks)
  have K7:=vE (P:=l.prog) (w:=w) (base:=base) K1 T z_bears_one_more z_things_of
  have z_may_ask:=cl K1 K7
  have z_stand_behind:=cl KQ (nj KQ T z_things_of)
  have z_number_of:=cl K' (sx K' T m_MOST_FIGURES)
  have z_row_line:=cl KW (ul KW T)
  have z_kept_of:=cl K6 (vD K6 T)
  have z_worth_kept:=cl K2 (qe K2 T z_kept_of)
  have z_asks_at:=cl Lh (vB Lh T z_may_ask)
  have KL:=nu (P:=l.prog) (w:=w) (base:=base) KJ T z_stand_behind m_FIRST_STAND c_FIRST_STAND
  have z_stand_of_run:=cl KJ KL
  have Lg:=uk (P:=l.prog) (w:=w) (base:=base) KZ T z_asks_at z_stand_of_run z_row_line
  have z_may_line:=cl KZ Lg
  have Lb:=su (P:=l.prog) (w:=w) (base:=base) KP T z_kept_of z_row_line z_worth_kept
  have z_kept_line:=cl KP Lb
  have K3:=qd (P:=l.prog) (w:=w) (base:=base) KR T z_number_of
  have z_tie_to_ask:=cl KR K3
  have zLmixed:=cl Ly (zD Ly T)
  have LK:=zC (P:=l.prog) (w:=w) (base:=base) LA T zLmixed
  have zLdraws:=cl LA LK
  have zLnext:=cl KO (B0 KO T)
  have zLgcd:=cl Me (ER Me T)
  have zLlow:=cl L8 (ES L8 T zLgcd)
  have zLchance:=cl Lq (xT Lq T zLlow)
  have zLworth:=cl LJ (zE LJ T)
  have zLties:=cl LV (B1 LV T zLnext zLchance zLworth)
  have Mi:=EU (P:=l.prog) (w:=w) (base:=base) Ma T zLties zLnext
  have zLweb:=cl Ma Mi
  have zLasks_of:=cl Li (vA Li T)
  have L0:=ET (P:=l.prog) (w:=w) (base:=base) LU T zLasks_of
  have zLmay:=cl LU L0
  have zLbehind:=cl Lr (xS Lr T)
  have Lj:=vz (P:=l.prog) (w:=w) (base:=base) Ld T zLmay
  have zLaskable:=cl Ld Lj
  have LW:=BY (P:=l.prog) (w:=w) (base:=base) LO T
  have zLkept:=cl LO LW
  have Le:=uj (P:=l.prog) (w:=w) (base:=base) K8 T zLbehind
  have zLstand_of:=cl K8 Le
  have K9:=ui (P:=l.prog) (w:=w) (base:=base) KY T
  have zLrow_text:=cl KY K9
  have Mj:=B2 (P:=l.prog) (w:=w) (base:=base) (C:=363) Mb T K8 Le KY K9 Ld Lj LU L0 LO LW
  have LX:=BZ (P:=l.prog) (w:=w) (base:=base) LQ T zLnext
  have zLline:=cl LQ LX
  have G_Desk_take_answer:=jA (P:=l.prog) (w:=w) (base:=base) (C:=363) F_Desk_take_answer T cls na_run na_waiting na_web
  have G_Desk_take_back:=ki (P:=l.prog) (w:=w) (base:=base) (C:=363) F_Desk_take_back T cls na_run na_waiting
  have G_Desk_take_ask:=lu (P:=l.prog) (w:=w) (base:=base) (C:=363) F_Desk_take_ask T K1 K7 KJ KL cls na_run na_waiting na_web
  have G_Desk_say:=sA (P:=l.prog) (w:=w) (base:=base) (C:=363) F_Desk_say T KR K3 me_Desk_take_answer B_Desk_take_answer G_Desk_take_answer me_Desk_take_back B_Desk_take_back G_Desk_take_back KZ Lg KP Lb me_Desk_take_ask B_Desk_take_ask G_Desk_take_ask cls na_run na_web TQ hks mQ a_may a_kept
  have LP:=zG (P:=l.prog) (w:=w) (base:=base) (C:=363) LI T me_Desk_say B_Desk_say G_Desk_say cls
  have G_Desk___init__:=lr (P:=l.prog) (w:=w) (base:=base) (C:=363) F_Desk___init__ T cls na_run na_waiting na_web
  have MZ:=EJ (B3 (P:=l.prog) (w:=w) (base:=base) (C:=363) MY T LA LK Ma Mi MK mC B_Desk___init__ G_Desk___init__ LI LP LQ LX Mb Mj cls)
  exact MZ
def HJ(K:Ng):Sp:=fun vs H Q _=>∃(a:xM) (ns:List Int),vs=[.ref a]∧iu K H a (ns.map V.int)∧ns.length≤63∧∀H',Q (.bl true) H'
theorem Eu{K:Ng}{vs:List V}{H:Hp}{Q:VK}{E:XK}(h:HJ K vs H Q E):dw K 1 ud vs H Q E:=by
  obtain⟨a,ns,rfl,hS,hl,q⟩:=h
  obtain⟨as',hm⟩:=zc ns hl
  exact vP hS hm q
theorem walk{l:W.OpenLaw}{q:Nl}{loose:List Str}{XP:(Str→Option Kz)→Nk→Prop}{YP:Nj→Nk→Prop}{d:DefRec}{K:Params→Ng}(hn:l.most=some 63)(hdf:d.params.defaults=[])
    (hY:∀(w:Nj) (h:Nk),YP w h→(K w.params).In h)
    (F:∀(w:Nj) (mg:Str→Option Kz) (fa:xM) (h:Nk),(K w.params).In h→h.Ns NM mg→mg d.name=some (.ref fa)→
      ∃fd:Nx,(∀(s:Nc) (u:Kz),BindsTo s fd ⟨[u],[]⟩ [("_law_script",u)])∧∀base:Nk,(K w.params).In base→base.Ns NM mg→aG l.prog w (K w.params) mg base cc 9 fa fd ["_law_script"] (dw (K w.params) 1 ud)):
    W.WalkO q loose XP YP l.row.toRowW d [] (fun f vs=>PySem.call f vs):=
  L2.walk_of (n:=63) (k:=9) (x:="_law_script") (CX:=fun _=>cc) (sp:=fun w=>dw (K w.params) 1 ud) hn (by decide) hdf ⟨rfl,by decide,by decide,rfl⟩ hY F (fun _ _ a ns hl _ hS=>Eu ⟨a,ns,rfl,hS,hl,fun _=>rfl⟩) fun _ _ _ _ _ z=>z
end V89
open PySem PySem.W PyProof.Rows
set_option maxRecDepth 100000 in
set_option maxHeartbeats 0 in
theorem PySem.Challenge.cw_askedpairs_k89_what_is_kept_holds : PySem.Challenge.rw_askedpairs_k89_what_is_kept.Holds := by
  w_on;o_law
  refine holds_open (q:=V89.kq) (loose:=["QUESTIONS"]) (Xt:=fun s=>xlAt V89.kq [] s&&recOk (RowW.records (OpenRow.toRowW (OpenLaw.row QN))) s) (XP:=XL V89.kq []) (Yf:=Hook.obs V89.kH) (Ya:=Hook.val V89.kH) (YP:=Hook.says V89.kH) (N:=5986) V89.left (Hook.of V89.kH) (Hook.keeps V89.kH) (fun s e=>xl_of s (Ro.mp e).1) XL.keeps (by rfl) (by rfl) (by rfl) (fun s e=>recFacts_of (Ro.mp e).2) (by rfl) (by assumption) (by decide+kernel) ⟨rfl,rfl,rfl,rfl,rfl,by decide+kernel⟩ ?hw ?hc
  case hw=>w_witness2
  case hc=>exact V89.walk (l:=QN) rfl rfl (fun w h Y=>kIn_of Y) (fun w mg fa h KX G hmg=>V89.all_mk KX G hmg)
