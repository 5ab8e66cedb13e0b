import PyProof.Rows.All
import KE.KRevSl
import KE.KItem
import KE.KFromBytes
import KE.KIntText
import KE.KIsAll
import KE.KRevIter
import PySem.Challenge.RW_askedpairs_k88_what_may_be_asked
open PySem renaming Addr→xM,Value→OR,Shared→OS,PyData→OT,Expr→OV,World→OW,Heap→OY,Program→OZ,Stmt→Pa,Around→Pb,wpAny→Pc,starEach→Pd,model→Pe,eval→Pf,wpAny_bind→Ph,FuncData→Pj,sizeLine→Pk,wpAny_pure→Pl,backTo→Po,Scope→Pz,mainGlobals→PB,cellsFrom→PD,assignEach→PQ,binaryOp→PR,compareOp→PZ,importedModules→Qd,sizeLine_eq→Qg,Keyword→Qh,NameKind→Qi,attributeBase→Qr,wpAny_mono→Qv,behindInMarks→QC,call_meets→QE,bootBuiltins→QK,backToKw→QL,keywordEach→QM,swapsWith→QO,DictEntry→Rq,wpAny_newObj_type→Rx,wpAny_passesOwn→Ry,getMethod→RB,sliceBounds→RD,wpAny_loadPart'→RG,foldedSetIterable→RM,wpAny_truthy_bool→RU,swapsWithSole→RV,swappedStores→RW,wpAny_Call_Name_kw→RY,mem_of_lookup→RZ,typeIs_int→Sd,intText?→Sj,wpAny_execs_nil→Sn,letOwnedTupleGo→So
open PySem.W renaming Frag→OU,openSeen→Ql,fnOf→Qu,findIn→Qx,nsIn→QN,mg_of→QX,boot_heap→QZ,emptyDict→Rf,instObj→Rg,keepIn→Rh,isStarred→Rl,kia_one→RJ,codeIn→Sb,lookIn→Sr,plainGet→Ss,callWith_K→Sx,methodObj→SW,hasDictIn→Ta,plainGet_of→Tc
open PySem.Str renaming ofString→OX,join→PN,empty→QV
open List renaming replicate→Pi,getElem?_set_ne→Pm,map_cons→Pw,length_map→Px,size_toArray→Py,getElem?_map→PF,mem_singleton→PJ,mem_cons_of_mem→PP,lookup→PU,lookup_cons→PX,all_eq_true→PY,getElem?_set_self→Qb,map_nil→Qc,mem_append→Qf,append_nil→Qo,nil_append→Qz,getElem?_eq_getElem→QA,Nodup→QB,length_cons→QD,cons_append→QF,mem_cons→QI,mem_filter→QJ,getElem?_append_left→QQ,range→QS,mem_cons_self→QT,mem_append_right→QU,nodup_cons→Rj,replicate_succ→Rk,ext_getElem?→Rm,map→Ro,mem_map→Rt,mem_range→Ru,length_set→RH,not_mem_nil→RI,getElem?_set→RK,foldl→RP,length_append→Sa,getElem?_of_mem→Sf,map_map→Sg,lookup_append→Si,flatten_cons→SA,pairwise_cons→SK,getElem_mem→SL,findIdx?_eq_none_iff→SN,any_cons→SO,filter_map→SQ,mem_filterMap→SX,filterMap_cons→SY,getElem?_replicate→Td,length_replicate→Te,length_eq_zero_iff→Tj,getD_eq_getElem?_getD→Tn,drop_eq_getElem_cons→Tq,drop_eq_nil_of_le→Tr,findIdx?_eq_some_iff_getElem→TH
open Option renaming bind_some→Pn,map_some→Qe,getD_some→SJ,map_eq_some_iff→SV
open Nat renaming le_refl→Pp,le_trans→PK,lt_of_lt_of_le→Qa,ne_of_lt→Qn,zero_le→QP,zero_add→QY,lt_irrefl→Re,le_of_lt→Rw,pow_le_pow_right→SE,lt_of_le_of_lt→Th
open Int renaming gcd→Pq,emod_nonneg→Sl,emod_lt_of_pos→Sm,fdiv_mul_cancel→SF,lt_of_lt_of_le→Tv
open PySem.Heap renaming lt_size→Pr,get?_push_of_some→PL,get?_push_size→Qm,SameBut→RL,size_push→RX
open Ne renaming symm→Pt
open PySem.Challenge renaming pw_askedpairs_k88_what_may_be_asked→Pu,rw_askedpairs_k88_what_may_be_asked→SU
open PySem.PyData renaming strOk→Pv,canLay0→PM,depth→Qj,canLayAll0→Qp,eqv→Qt,depthAll→QR,shownAll→SG,showableAll→SH
open PySem.SeqAt renaming shaped→PH,canLay_of_shaped→SM
open Bool renaming and_eq_true→PV,false_ne_true→Rz,eq_iff_iff→RT,and_eq_true_iff→SS,false_eq_true→Ti
open PySem.Txt renaming split→Qk,slice→QG,isdecimal→Sk
open Option.some renaming inj→Qq,injEq→Rr
open PySem.NameKind renaming free→Qs,cell→RF
open False renaming elim→Qw
open PyProof.Rows renaming kindOf→Qy,IntsAre→QW,slot_tuple_getitem→RC,boot_str→Ts,callWith_type1→Tx
open PySem.PassesOwn renaming never→QH
open PySem.Obj renaming mapSeq→RE
open True renaming intro→RN
open PySem.Builtin.Tuple renaming tupleExact→RO,tupleTooMany→Tp,tupleItemsOf→TB
open ForInStep renaming yield→RQ
open PySem.F renaming slot_tuple_mul→Se,slot_list_pop→SB,slot_int_rmul→SD,slot_str_split→SR,plainAttrs_str→Tt
open PySem.Around renaming under→Su
open PySem.Builtin.Slice renaming slicePlaces→Sy,sliceAdjust→Tf,sliceApplied→Tz
open Array renaming length_toList→SZ
open PySem.Builtin.List renaming listTooLong→Tg,listExtendWith→TC
open PySem.AutoSeq1 renaming idx_int→To
open PySem.Builtin.Str renaming occurrences→Tu
open List.cons renaming injEq→Tw
open PySem.Builtin.SmallTypes renaming nextOf→TF
set_option Elab.async false
set_option linter.all false
set_option maxRecDepth 100000
namespace L2
open PySem PySem.Spec PyProof.Rows
def dS(s:Pa):Arguments:=match s with
  | .FunctionDef _ a _ _ _ _ _ _ _ _=>a
  | _=>{posonlyargs:=[],args:=[],vararg:=none,kwonlyargs:=[],kw_defaults:=[],kwarg:=none,defaults:=[]}
def cm(s:Pa):List Pa:=match s with
  | .FunctionDef _ _ b _ _ _ _ _ _ _=>b
  | _=>[]
def ag(s:Pa):Pz:=match s with
  | .FunctionDef _ _ _ _ _ _ sc _ _ _=>sc
  | _=>{kind:=.function,names:=[],isGenerator:=false,isCoroutine:=false}
end L2
namespace V88
open PySem PySem.Spec PyProof.Rows L2
def top(i:Nat):Pa:=Pu.main.body.getD i (.Pass ⟨0,0,0,0⟩)
abbrev cY:Pa:=top 21
abbrev gk:Pa:=top 22
abbrev cB:Pa:=top 23
abbrev g_:Pa:=top 24
abbrev cX:Pa:=top 25
abbrev gn:Pa:=top 39
abbrev fw:Pa:=top 41
abbrev g9:Pa:=top 43
abbrev eT:Pa:=top 44
abbrev ja:Pa:=top 46
abbrev cC:Pa:=top 57
abbrev iu:Pa:=top 59
abbrev gh:Pa:=top 62
abbrev eS:Pa:=top 63
abbrev mO:Pa:=top 67
abbrev mN:Pa:=top 68
abbrev lE:Pa:=top 69
abbrev vD:Pa:=top 70
abbrev vE:Pa:=top 71
abbrev kf:Pa:=top 72
abbrev mP:Pa:=top 73
abbrev qx:Pa:=top 74
abbrev vF:Pa:=top 75
abbrev i_:Pa:=top 76
abbrev r9:Pa:=top 77
abbrev ke:Pa:=top 78
abbrev i9:Pa:=top 79
abbrev qt:Pa:=top 80
abbrev ir:Pa:=top 81
abbrev ip:Pa:=top 82
abbrev vB:Pa:=top 83
abbrev qu:Pa:=top 84
abbrev qy:Pa:=top 85
abbrev eR:Pa:=top 86
abbrev qB:Pa:=top 87
def zR:Pa→Nat→Pa
  | .ClassDef _ _ _ body _ _ _ _ _ _ _,j=>body.getD j (.Pass ⟨0,0,0,0⟩)
  | s,_=>s
abbrev dU:Pa:=zR (top 65) 0
abbrev jL:Pa:=zR (top 65) 1
abbrev dW:Pa:=zR (top 65) 2
abbrev cI:Pa:=zR (top 65) 3
abbrev du:Pa:=zR (top 65) 4
def kL(n:Str)(bs mro:List OR)(ns:xM)(sub:List OR)(sl:Array (Option OR)):Obj:=⟨.type "type",none,.cls {name:=n,bases:=bs,mro:=mro,ns:=ns,qualname:=n,hasDict:=true,slotNames:=[],subclasses:=sub,abstract:=false,collection:=none,hasDel:=false},sl⟩
def kM(n q:Str)(s:Pa)(doc pm:OR)(c:xM):Obj:=⟨.type "function",none,.func (Qu n q (dS s) (cm s) (ag s) .none .none doc pm none (.ref c) .none),#[]⟩
def kD(n q:Str)(a:Nat)(l:List OR)(z:Nat):Obj:=⟨.type "code",none,.fields (Value.str n a::Value.str q (a+1)::Value.str "/claim/cut.py" (a+2)::l++[Value.str "/claim/cut.py" z]).toArray,#[]⟩
def kE(P:Params)(k:Str)(t:Tok)(v:OR):Rq:=⟨PyData.keyHash P k,.str k t,v⟩
def kF(n:Str)(s:Pa)(doc pm:OR)(c:xM):Obj:=⟨.type "function",none,.func (Qu n n (dS s) (cm s) (ag s) .none .none doc pm none (.ref c) .none),#[]⟩
def kI(n:Int):OR:=.int n 0
def kC(n:Str)(a:Nat)(l:List OR)(z:Nat):Obj:=⟨.type "code",none,.fields (Value.str n a::Value.str n (a+1)::Value.str "/claim/cut.py" (a+2)::l++[Value.str "/claim/cut.py" z]).toArray,#[]⟩
def kT(l:List OR)(n:Nat):Obj:=⟨.type "tuple",none,.seq l.toArray n,#[]⟩
def Ci:OR:=.str "askedpairs.stands" 337
def J3:OR:=.str "askedpairs.lines" 439
def J4:OR:=.str "askedpairs.runs" 466
def Li:OR:=.str "askedpairs.tablepaper" 480
def uu:OR:=.str "askedpairs.desk" 555
def iL:OR:=.str "law_askedpairs_k88_what_may_be_asked" 690
def kK(P:Params):OU:=[(3,⟨.type "dict",none,.dict (List.toArray [kE P "__name__" 165 (.str "law_askedpairs_k88_what_may_be_asked" 690),kE P "__doc__" 166 (.none),kE P "__package__" 167 (.none),kE P "__loader__" 168 (.builtin "__main__.__loader__#opaque"),kE P "__spec__" 169 (.none),kE P "__annotations__" 170 (.ref 6),kE P "__builtins__" 171 (.ref 4),kE P "__file__" 173 (.str "/claim/cut.py" 172),kE P "__cached__" 174 (.none),kE P "PairsError" 206 (.ref 24),kE P "TooMany" 222 (.ref 37),kE P "refuse_above" 230 (.ref 46),kE P "ZERO" 235 (.ref 47),kE P "common_divisor" 243 (.ref 54),kE P "lowest" 252 (.ref 61),kE P "plus" 260 (.ref 68),kE P "times" 268 (.ref 75),kE P "less" 276 (.ref 82),kE P "one_less" 283 (.ref 89),kE P "total" 292 (.ref 96),kE P "column_to_enter" 300 (.ref 101),kE P "is_sooner" 310 (.ref 108),kE P "row_to_leave" 324 (.ref 115),kE P "exchanged" 330 (.ref 120),kE P "best_levels" 336 (.ref 125),kE P "FIRST_STAND" 339 (.ref 128),kE P "things_of" 347 (.ref 135),kE P "many_asks" 353 (.ref 140),kE P "bears_one_more" 364 (.ref 147),kE P "may_ask" 370 (.ref 152),kE P "stand_behind" 382 (.ref 159),kE P "END" 385 (.int (-1) 384),kE P "gain_of" 394 (.ref 166),kE P "shares_worth" 402 (.ref 171),kE P "MOST_TIES_OF_BOUND" 406 (.int (10) 405),kE P "rows_of" 412 (.ref 176),kE P "limits_of" 423 (.ref 183),kE P "as_prices" 432 (.ref 190),kE P "bound" 438 (.ref 195),kE P "MOST_FIGURES" 442 (.int (4) 441),kE P "number_of" 450 (.ref 202),kE P "fraction_word" 459 (.ref 209),kE P "row_line" 465 (.ref 214),kE P "kept_of" 473 (.ref 219),kE P "worth_kept" 479 (.ref 224),kE P "asks_at" 487 (.ref 229),kE P "both_ways" 498 (.ref 236),kE P "ways_at" 504 (.ref 241),kE P "ways_worth" 510 (.ref 246),kE P "MOST_TIES_OF_TABLE" 514 (.int (7) 513),kE P "layers_by_asks" 520 (.ref 251),kE P "best_ask" 532 (.ref 258),kE P "table_by" 546 (.ref 265),kE P "table_of" 554 (.ref 272),kE P "stand_of_run" 567 (.ref 279),kE P "web_left" 573 (.ref 284),kE P "may_line" 582 (.ref 291),kE P "best_line" 588 (.ref 296),kE P "bound_line" 596 (.ref 303),kE P "kept_line" 605 (.ref 310),kE P "tie_to_ask" 615 (.ref 317),kE P "QUESTIONS" 624 (.ref 318),kE P "Desk" 689 (.ref 363),kE P "_law_mixed" 700 (.ref 374),kE P "_law_draws" 711 (.ref 381),kE P "_law_next" 718 (.ref 388),kE P "_law_gcd" 726 (.ref 395),kE P "_law_low" 735 (.ref 402),kE P "_law_chance" 744 (.ref 409),kE P "_law_worth" 752 (.ref 416),kE P "_law_ties" 771 (.ref 423),kE P "_law_web" 787 (.ref 430),kE P "_law_asks_of" 793 (.ref 435),kE P "_law_may" 805 (.ref 442),kE P "_law_behind" 818 (.ref 449),kE P "_law_askable" 824 (.ref 454),kE P "_law_kept" 830 (.ref 459),kE P "_law_stand_of" 841 (.ref 466),kE P "_law_row_text" 847 (.ref 471),kE P "_law_due" 853 (.ref 476),kE P "_law_line" 864 (.ref 483),kE P "_law_told" 874 (.ref 490),kE P "_law_other_desk" 885 (.ref 497),kE P "law" 902 (.ref 504)]) 84,#[]⟩),
  (135,kF "things_of" cY (.none) Ci 134),
  (134,kC "things_of" 340 [kI 75,kI 2,kI 0,kI 0,kI 3,.ref 129,.bool true,kI 181,.ref 130,.none,.ref 131,.ref 132,.ref 133,kI 345,kI 75] 346),
  (140,kF "many_asks" gk (.none) Ci 139),
  (139,kC "many_asks" 348 [kI 77,kI 3,kI 0,kI 0,kI 3,.ref 136,.bool true,kI 181,.ref 137,.none,.none,.none,.ref 138,kI 351,kI 77] 352),
  (147,kF "bears_one_more" cB (.none) Ci 146),
  (146,kC "bears_one_more" 354 [kI 79,kI 3,kI 0,kI 0,kI 3,.ref 141,.bool true,kI 181,.ref 142,.none,.ref 143,.ref 144,.ref 145,kI 362,kI 79] 363),
  (152,kF "may_ask" g_ (.none) Ci 151),
  (151,kC "may_ask" 365 [kI 82,kI 3,kI 0,kI 0,kI 3,.ref 148,.bool true,kI 181,.ref 149,.none,.none,.none,.ref 150,kI 368,kI 82] 369),
  (159,kF "stand_behind" cX (.none) Ci 158),
  (158,kC "stand_behind" 371 [kI 87,kI 4,kI 0,kI 0,kI 3,.ref 153,.bool true,kI 181,.ref 154,.none,.ref 155,.ref 156,.ref 157,kI 380,kI 87] 381),
  (202,kF "number_of" gn (.none) J3 201),
  (201,kC "number_of" 443 [kI 122,kI 1,kI 0,kI 0,kI 3,.ref 196,.bool true,kI 181,.ref 197,.none,.ref 198,.ref 199,.ref 200,kI 448,kI 122] 449),
  (214,kF "row_line" fw (.none) J3 213),
  (213,kC "row_line" 460 [kI 130,kI 1,kI 0,kI 0,kI 3,.ref 210,.bool true,kI 181,.ref 211,.none,.none,.none,.ref 212,kI 463,kI 130] 464),
  (219,kF "kept_of" g9 (.none) J4 218),
  (218,kC "kept_of" 468 [kI 133,kI 1,kI 0,kI 0,kI 3,.ref 215,.bool true,kI 181,.ref 216,.none,.none,.none,.ref 217,kI 471,kI 133] 472),
  (224,kF "worth_kept" eT (.none) J4 223),
  (223,kC "worth_kept" 474 [kI 135,kI 2,kI 0,kI 0,kI 3,.ref 220,.bool true,kI 181,.ref 221,.none,.none,.none,.ref 222,kI 477,kI 135] 478),
  (229,kF "asks_at" ja (.none) Li 228),
  (228,kC "asks_at" 482 [kI 138,kI 2,kI 0,kI 0,kI 3,.ref 225,.bool true,kI 181,.ref 226,.none,.none,.none,.ref 227,kI 485,kI 138] 486),
  (279,kF "stand_of_run" cC (.none) uu 278),
  (278,kC "stand_of_run" 557 [kI 177,kI 2,kI 0,kI 0,kI 3,.ref 273,.bool true,kI 181,.ref 274,.none,.ref 275,.ref 276,.ref 277,kI 565,kI 177] 566),
  (291,kF "may_line" iu (.none) uu 290),
  (290,kC "may_line" 574 [kI 188,kI 2,kI 0,kI 0,kI 3,.ref 285,.bool true,kI 181,.ref 286,.none,.ref 287,.ref 288,.ref 289,kI 580,kI 188] 581),
  (310,kF "kept_line" gh (.none) uu 309),
  (309,kC "kept_line" 597 [kI 204,kI 2,kI 0,kI 0,kI 3,.ref 304,.bool true,kI 181,.ref 305,.none,.ref 306,.ref 307,.ref 308,kI 603,kI 204] 604),
  (317,kF "tie_to_ask" eS (.none) uu 316),
  (316,kC "tie_to_ask" 606 [kI 207,kI 2,kI 0,kI 0,kI 3,.ref 311,.bool true,kI 181,.ref 312,.none,.ref 313,.ref 314,.ref 315,kI 613,kI 207] 614),
  (374,kF "_law_mixed" mO (.none) iL 373),
  (373,kC "_law_mixed" 692 [kI 257,kI 2,kI 0,kI 0,kI 3,.ref 368,.bool true,kI 181,.ref 369,.none,.ref 370,.ref 371,.ref 372,kI 698,kI 257] 699),
  (381,kF "_law_draws" mN (.none) iL 380),
  (380,kC "_law_draws" 701 [kI 260,kI 1,kI 0,kI 0,kI 3,.ref 375,.bool true,kI 181,.ref 376,.none,.ref 377,.ref 378,.ref 379,kI 709,kI 260] 710),
  (388,kF "_law_next" lE (.none) iL 387),
  (387,kC "_law_next" 712 [kI 273,kI 1,kI 0,kI 0,kI 3,.ref 382,.bool true,kI 181,.ref 383,.none,.ref 384,.ref 385,.ref 386,kI 716,kI 273] 717),
  (395,kF "_law_gcd" vD (.none) iL 394),
  (394,kC "_law_gcd" 719 [kI 277,kI 2,kI 0,kI 0,kI 3,.ref 389,.bool true,kI 181,.ref 390,.none,.ref 391,.ref 392,.ref 393,kI 724,kI 277] 725),
  (402,kF "_law_low" vE (.none) iL 401),
  (401,kC "_law_low" 727 [kI 281,kI 2,kI 0,kI 0,kI 3,.ref 396,.bool true,kI 181,.ref 397,.none,.ref 398,.ref 399,.ref 400,kI 733,kI 281] 734),
  (409,kF "_law_chance" kf (.none) iL 408),
  (408,kC "_law_chance" 736 [kI 284,kI 2,kI 0,kI 0,kI 3,.ref 403,.bool true,kI 181,.ref 404,.none,.ref 405,.ref 406,.ref 407,kI 742,kI 284] 743),
  (416,kF "_law_worth" mP (.none) iL 415),
  (415,kC "_law_worth" 745 [kI 294,kI 2,kI 0,kI 0,kI 3,.ref 410,.bool true,kI 181,.ref 411,.none,.ref 412,.ref 413,.ref 414,kI 750,kI 294] 751),
  (423,kF "_law_ties" qx (.none) iL 422),
  (422,kC "_law_ties" 753 [kI 296,kI 3,kI 0,kI 0,kI 3,.ref 417,.bool true,kI 181,.ref 418,.none,.ref 419,.ref 420,.ref 421,kI 769,kI 296] 770),
  (430,kF "_law_web" vF (.none) iL 429),
  (429,kC "_law_web" 772 [kI 311,kI 3,kI 0,kI 0,kI 3,.ref 424,.bool true,kI 181,.ref 425,.none,.ref 426,.ref 427,.ref 428,kI 785,kI 311] 786),
  (435,kF "_law_asks_of" i_ (.none) iL 434),
  (434,kC "_law_asks_of" 788 [kI 321,kI 3,kI 0,kI 0,kI 3,.ref 431,.bool true,kI 181,.ref 432,.none,.none,.none,.ref 433,kI 791,kI 321] 792),
  (442,kF "_law_may" r9 (.none) iL 441),
  (441,kC "_law_may" 794 [kI 323,kI 3,kI 0,kI 0,kI 3,.ref 436,.bool true,kI 181,.ref 437,.none,.ref 438,.ref 439,.ref 440,kI 803,kI 323] 804),
  (449,kF "_law_behind" ke (.none) iL 448),
  (448,kC "_law_behind" 806 [kI 331,kI 4,kI 0,kI 0,kI 3,.ref 443,.bool true,kI 181,.ref 444,.none,.ref 445,.ref 446,.ref 447,kI 816,kI 331] 817),
  (454,kF "_law_askable" i9 (.none) iL 453),
  (453,kC "_law_askable" 819 [kI 337,kI 2,kI 0,kI 0,kI 3,.ref 450,.bool true,kI 181,.ref 451,.none,.none,.none,.ref 452,kI 822,kI 337] 823),
  (459,kF "_law_kept" qt (.none) iL 458),
  (458,kC "_law_kept" 825 [kI 339,kI 2,kI 0,kI 0,kI 3,.ref 455,.bool true,kI 181,.ref 456,.none,.none,.none,.ref 457,kI 828,kI 339] 829),
  (466,kF "_law_stand_of" ir (.none) iL 465),
  (465,kC "_law_stand_of" 831 [kI 341,kI 2,kI 0,kI 0,kI 3,.ref 460,.bool true,kI 181,.ref 461,.none,.ref 462,.ref 463,.ref 464,kI 839,kI 341] 840),
  (471,kF "_law_row_text" ip (.none) iL 470),
  (470,kC "_law_row_text" 842 [kI 346,kI 1,kI 0,kI 0,kI 3,.ref 467,.bool true,kI 181,.ref 468,.none,.none,.none,.ref 469,kI 845,kI 346] 846),
  (476,kF "_law_due" vB (.none) iL 475),
  (475,kC "_law_due" 848 [kI 350,kI 3,kI 0,kI 0,kI 3,.ref 472,.bool true,kI 181,.ref 473,.none,.none,.none,.ref 474,kI 851,kI 350] 852),
  (483,kF "_law_line" qu (.none) iL 482),
  (482,kC "_law_line" 854 [kI 375,kI 3,kI 0,kI 0,kI 3,.ref 477,.bool true,kI 181,.ref 478,.none,.ref 479,.ref 480,.ref 481,kI 862,kI 375] 863),
  (490,kF "_law_told" qy (.none) iL 489),
  (489,kC "_law_told" 865 [kI 383,kI 3,kI 0,kI 0,kI 3,.ref 484,.bool true,kI 181,.ref 485,.none,.ref 486,.ref 487,.ref 488,kI 872,kI 383] 873),
  (497,kF "_law_other_desk" eR (.none) iL 496),
  (496,kC "_law_other_desk" 875 [kI 386,kI 2,kI 0,kI 0,kI 3,.ref 491,.bool true,kI 181,.ref 492,.none,.ref 493,.ref 494,.ref 495,kI 883,kI 386] 884),
  (504,kF "law" qB (.none) iL 503),
  (503,kC "law" 886 [kI 392,kI 1,kI 0,kI 0,kI 3,.ref 498,.bool true,kI 181,.ref 499,.none,.ref 500,.ref 501,.ref 502,kI 900,kI 392] 901),
  (332,kM "__init__" "Desk.__init__" dU (.none) uu 331),
  (331,kD "__init__" "Desk.__init__" 637 [kI 216,kI 2,kI 0,kI 0,kI 3,.ref 326,.bool true,kI 181,.ref 327,.none,.ref 328,.ref 329,.ref 330,kI 642,kI 216] 643),
  (339,kM "say" "Desk.say" jL (.none) uu 338),
  (338,kD "say" "Desk.say" 645 [kI 221,kI 2,kI 0,kI 0,kI 3,.ref 333,.bool true,kI 181,.ref 334,.none,.ref 335,.ref 336,.ref 337,kI 652,kI 221] 653),
  (346,kM "take_ask" "Desk.take_ask" dW (.none) uu 345),
  (345,kD "take_ask" "Desk.take_ask" 655 [kI 234,kI 2,kI 0,kI 0,kI 3,.ref 340,.bool true,kI 181,.ref 341,.none,.ref 342,.ref 343,.ref 344,kI 660,kI 234] 661),
  (353,kM "take_answer" "Desk.take_answer" cI (.none) uu 352),
  (352,kD "take_answer" "Desk.take_answer" 663 [kI 240,kI 2,kI 0,kI 0,kI 3,.ref 347,.bool true,kI 181,.ref 348,.none,.ref 349,.ref 350,.ref 351,kI 669,kI 240] 670),
  (360,kM "take_back" "Desk.take_back" du (.none) uu 359),
  (359,kD "take_back" "Desk.take_back" 672 [kI 248,kI 1,kI 0,kI 0,kI 3,.ref 354,.bool true,kI 181,.ref 355,.none,.ref 356,.ref 357,.ref 358,kI 676,kI 248] 677),
  (47,kT [.int (0) 233,.int (1) 234] 0),
  (128,kT [.ref 126,.ref 127] 0),
  (126,kT [] 0),
  (127,kT [] 0),
  (318,⟨.type "dict",none,.dict (List.toArray [kE P "may" 616 (.ref 291),kE P "best" 617 (.ref 296),kE P "bound" 618 (.ref 303),kE P "kept" 619 (.ref 310)]) 4,#[]⟩),
  (363,kL "Desk" [.type "object"] [.ref 363,.type "object"] 362 [] #[none,none,some (.str "Desk" 625),some (.str "Desk" 633),some (.builtin "object.__new__"),some (.bool true)]),
  (362,⟨.type "dict",none,.dict (List.toArray [kE P "__module__" 632 (.str "askedpairs.desk" 555),kE P "__firstlineno__" 636 (.int (214) 635),kE P "__init__" 644 (.ref 332),kE P "say" 654 (.ref 339),kE P "take_ask" 662 (.ref 346),kE P "take_answer" 671 (.ref 353),kE P "take_back" 678 (.ref 360),kE P "__static_attributes__" 682 (.ref 361),kE P "__dict__" 684 (.ref 364),kE P "__weakref__" 686 (.ref 365),kE P "__doc__" 687 (.none)]) 4,#[]⟩)]
def kA:List xM:=[3,135,134,140,139,147,146,152,151,159,158,202,201,214,213,219,218,224,223,229,228,279,278,291,290,310,309,317,316,374,373,381,380,388,387,395,394,402,401,409,408,416,415,423,422,430,429,435,434,442,441,449,448,454,453,459,458,466,465,471,470,476,475,483,482,490,489,497,496,504,503,332,331,339,338,346,345,353,352,360,359,47,128,126,127,318,363,362]
def kq:OZ:={Pu with main:={Pu.main with body:=[top 1,top 2,top 3,top 5,top 6,top 7,top 8,top 9,top 10,top 11,top 12,top 14,top 15,top 16,top 17,top 18,top 20,top 21,top 22,top 23,top 24,top 25,top 26,top 28,top 30,top 32,top 33,top 34,top 35,top 36,top 38,top 39,top 40,top 41,top 43,top 44,top 46,top 47,top 48,top 49,top 51,top 52,top 53,top 54,top 55,top 57,top 58,top 59,top 60,top 61,top 62,top 63,top 64,top 65,top 67,top 68,top 69,top 70,top 71,top 72,top 73,top 74,top 75,top 76,top 77,top 78,top 79,top 80,top 81,top 82,top 83,top 84,top 85,top 86,top 87]}}
def kH:W.Hook:=W.kHook kK kA (fun _=>by kernel_rfl)
abbrev lX(s:OS):Bool:=W.xlAt kq [] s&&W.recOk (W.RowW.records (W.OpenRow.toRowW (W.OpenLaw.row SU))) s
def yx(p:OZ)(w:OW):Nat→W.SharedT→Thread→Option W.SharedT
  | 0,_,_=>none
  | n+1,s,t=>match W.through t with
    | true=>some s
    | false=>match W.stepOk 11 (some (.ref 6)) t with
      | false=>none
      | true=>match W.stepT (denote treeTable) p w s t with
        | some (x,y)=>yx p w n x y
        | none=>none
theorem E9{p:OZ}{w:OW}:∀{n:Nat} {s r:W.SharedT} {t:Thread},yx p w n s t=some r→W.topRun treeTable p w 11 (some (.ref 6)) n s.abs t=some r.abs
  | 0,_,_,_,h=>by cases h
  | n+1,s,r,t,h=>by
    unfold yx at h
    unfold W.topRun
    split at h
    · next e=>rw [e];cases h;rfl
    · next e=>
      rw [e]
      split at h
      · cases h
      · next k=>
        rw [k]
        split at h
        · next g=>rw [W.stepT_spec g];exact E9 h
        · cases h
def E8:List Obj→Nat→W.BT→W.BT
  | [],_,t=>t
  | o::r,n,t=>E8 r (n+1) (t.ins n o)
noncomputable def JU(w:OW)(os:OsState):W.SharedT:=⟨E8 (QZ w.params).objs.toList 0 .nil,11,(QZ w.params).life,#[],W.boot_drawn,W.boot_toks,os⟩
theorem HD:(fun w os=>(JU w os).abs)=fun w os=>⟨QZ w.params,#[],W.boot_drawn,W.boot_toks,os⟩:=by kernel_rfl
theorem JT:(fun w:OW=>((QZ w.params).isNs PB,(QZ w.params).objs.size,(QZ w.params).nsMap PB "__annotations__"))=fun _=>(true,11,some (.ref 6)):=by kernel_rfl
noncomputable def qQ(p:OZ)(w:OW)(s:OS):Bool:=W.staticsOk (Qd p.main.body) (QZ w.params) s.heap&&W.namesBound p s.heap&&W.gensDone s&&W.laidKept (QZ w.params) s.heap
def nM(p:OZ)(r:OW→OW)(N:Nat){α:Type}(f:OW→OS→α)(a:OW→α):Prop:=∀w,(fun os=>(yx p (r w) N (JU w os) (W.topStub p)).map fun x=>f w x.abs)=fun _=>some (a (r w))
theorem Eg{p q:OZ}{L:List Str}{X:OS→Bool}{α:Type}{Yf:OS→α}{Ya:OW→α}{N:Nat}(o:W.opening p=W.plainProg p.main.scope.names)(hN:Nat.ble 600 N=true)(fe:fenceModules? p=some)
    (h:∀w,∃r:OW→OW,r w=w∧nM p r N (fun w s=>(qQ p w s,Ql q L (Qd p.main.body) X true s,Yf s)) fun w=>(true,W.openGood q L,Ya w)):W.LeftO p q L X Yf Ya N:=fun w=>by
  obtain⟨s,e,k⟩:=SV.1 (W.boot_open (N:=N) o hN (fun s=>congrFun fe s) w)
  obtain⟨r,rw1,h⟩:=h w
  obtain⟨H,g,d,t,os⟩:=s
  cases k
  have z:=congrFun (h w) os
  rw [rw1] at z
  obtain⟨y,ey,hy⟩:=SV.1 z
  have a:=E9 ey
  rw [congrFun (congrFun HD w) os] at a
  have b:=congrFun JT w
  simp only [Prod.mk.injEq] at b hy
  have c:W.topFrom treeTable p w N ⟨QZ w.params,#[],W.boot_drawn,W.boot_toks,os⟩=some y.abs:=by
    unfold W.topFrom
    dsimp only
    rw [b.1,b.2.1,b.2.2,a]
    have m:=hy.1
    unfold qQ at m
    simp only [Pn,m]
    rfl
  unfold W.openEnds
  rw [e,Pn]
  exact(congrArg (Option.map _) c).trans (congrArg some (Prod.ext hy.2.1 hy.2.2))
theorem HE{p:OZ}{N:Nat}{α:Type}{f:OW→OS→α}{a:OW→α}{row:String}(h:∀b,nM p (fun w=>w.withFollow row b) N f a):∀w:OW,∃r:OW→OW,r w=w∧nM p r N f a:=fun w=>⟨_,World.withFollow_self w row,h (w.params.followText row)⟩
theorem F_:nM Pu (fun w=>w.withFollow "special-get-raises" false) 6058 (fun v s=>(qQ Pu v s,(Ql kq ["QUESTIONS"] (Qd Pu.main.body) lX true s).1)) (fun v=>(true,expectedOf kq)):=fun w=>by kernel_rfl
theorem Gb:nM Pu (fun w=>w.withFollow "special-get-raises" false) 6058 (fun v s=>((Ql kq ["QUESTIONS"] (Qd Pu.main.body) lX true s).2.1,(Ql kq ["QUESTIONS"] (Qd Pu.main.body) lX true s).2.2.1)) (fun v=>(bltViewBooted,true)):=fun w=>by kernel_rfl
theorem Gd:nM Pu (fun w=>w.withFollow "special-get-raises" false) 6058 (fun v s=>(Ql kq ["QUESTIONS"] (Qd Pu.main.body) lX true s).2.2.2.1) (fun v=>true):=fun w=>by kernel_rfl
theorem Gf:nM Pu (fun w=>w.withFollow "special-get-raises" false) 6058 (fun v s=>((Ql kq ["QUESTIONS"] (Qd Pu.main.body) lX true s).2.2.2.2.1,(Ql kq ["QUESTIONS"] (Qd Pu.main.body) lX true s).2.2.2.2.2.1)) (fun v=>(pinGoodD (drecsOf kq),plainGoodE kq (W.looseW kq ["QUESTIONS"]))):=fun w=>by kernel_rfl
theorem Gh:nM Pu (fun w=>w.withFollow "special-get-raises" false) 6058 (fun v s=>((Ql kq ["QUESTIONS"] (Qd Pu.main.body) lX true s).2.2.2.2.2.2,W.Hook.obs kH s)) (fun v=>((plainGoodD kq ["QUESTIONS"],W.wideGood kq,W.clsGoodW kq ["QUESTIONS"]),W.Hook.val kH v)):=fun w=>by kernel_rfl
theorem Ga:nM Pu (fun w=>w.withFollow "special-get-raises" true) 6058 (fun v s=>(qQ Pu v s,(Ql kq ["QUESTIONS"] (Qd Pu.main.body) lX true s).1)) (fun v=>(true,expectedOf kq)):=fun w=>by kernel_rfl
theorem Gc:nM Pu (fun w=>w.withFollow "special-get-raises" true) 6058 (fun v s=>((Ql kq ["QUESTIONS"] (Qd Pu.main.body) lX true s).2.1,(Ql kq ["QUESTIONS"] (Qd Pu.main.body) lX true s).2.2.1)) (fun v=>(bltViewBooted,true)):=fun w=>by kernel_rfl
theorem Ge:nM Pu (fun w=>w.withFollow "special-get-raises" true) 6058 (fun v s=>(Ql kq ["QUESTIONS"] (Qd Pu.main.body) lX true s).2.2.2.1) (fun v=>true):=fun w=>by kernel_rfl
theorem Gg:nM Pu (fun w=>w.withFollow "special-get-raises" true) 6058 (fun v s=>((Ql kq ["QUESTIONS"] (Qd Pu.main.body) lX true s).2.2.2.2.1,(Ql kq ["QUESTIONS"] (Qd Pu.main.body) lX true s).2.2.2.2.2.1)) (fun v=>(pinGoodD (drecsOf kq),plainGoodE kq (W.looseW kq ["QUESTIONS"]))):=fun w=>by kernel_rfl
theorem Gi:nM Pu (fun w=>w.withFollow "special-get-raises" true) 6058 (fun v s=>((Ql kq ["QUESTIONS"] (Qd Pu.main.body) lX true s).2.2.2.2.2.2,W.Hook.obs kH s)) (fun v=>((plainGoodD kq ["QUESTIONS"],W.wideGood kq,W.clsGoodW kq ["QUESTIONS"]),W.Hook.val kH v)):=fun w=>by kernel_rfl
noncomputable def K8(v:OW)(s:OS):=(qQ Pu v s,(Ql kq ["QUESTIONS"] (Qd Pu.main.body) lX true s),W.Hook.obs kH s)
noncomputable def K7(v:OW):=(true,W.openGood kq ["QUESTIONS"],W.Hook.val kH v)
theorem JS{τ β0 β1 β2 β3 β4 β5 β6 β7 β8:Type}{o:Option τ}{a0:τ→β0}{a1:τ→β1}{a2:τ→β2}{a3:τ→β3}{a4:τ→β4}{a5:τ→β5}{a6:τ→β6}{a7:τ→β7}{a8:τ→β8}{c0:β0}{c1:β1}{c2:β2}{c3:β3}{c4:β4}{c5:β5}{c6:β6}{c7:β7}{c8:β8}
    (h:o.map (fun x=>(a0 x,a1 x))=some (c0,c1))(k:o.map (fun x=>(a2 x,a3 x))=some (c2,c3))(n:o.map a4=some c4)(l:o.map (fun x=>(a5 x,a6 x))=some (c5,c6))(m:o.map (fun x=>(a7 x,a8 x))=some (c7,c8)):
    o.map (fun x=>(a0 x,(a1 x,a2 x,a3 x,a4 x,a5 x,a6 x,a7 x),a8 x))=some (c0,(c1,c2,c3,c4,c5,c6,c7),c8):=by
  cases o with
  | none=>cases h
  | some x=>
    simp only [Qe,Rr,Prod.mk.injEq] at h k l m n ⊢
    exact⟨h.1,⟨h.2,k.1,k.2,n,l.1,l.2,m.1⟩,m.2⟩
theorem left:W.LeftO Pu kq ["QUESTIONS"] lX (W.Hook.obs kH) (W.Hook.val kH) 6058:=Eg (by kernel_rfl) (by kernel_rfl) (by kernel_rfl) (HE (row:="special-get-raises") (f:=K8) (a:=K7) fun b=>match b with | false=>fun w=>funext fun os=>JS (congrFun (F_ w) os) (congrFun (Gb w) os) (congrFun (Gd w) os) (congrFun (Gf w) os) (congrFun (Gh w) os) | true=>fun w=>funext fun os=>JS (congrFun (Ga w) os) (congrFun (Gc w) os) (congrFun (Ge w) os) (congrFun (Gg w) os) (congrFun (Gi w) os))
end V88
namespace L2
open PySem PySem.Spec PyProof.Rows
theorem OK{α:Type _}{β:Type _}{o:Option α}{f:α→Option β}{b:β}(h:o.bind f=some b):∃a,o=some a∧f a=some b:=Option.bind_eq_some_iff.mp h
theorem OL{α:Type _}{β:Type _}{o:Option α}{f:α→β}{b:β}(h:o.map f=some b):∃a,o=some a∧f a=b:=SV.mp h
theorem OM{α:Type _}{l:List α}{i:Nat}{a:α}(h:l[i]?=some a):∃w:i<l.length,l[i]=a:=List.getElem?_eq_some_iff.mp h
theorem ON{α:Type _}{a:α}{s t:List α}(h:a∈s++t):a∈s∨a∈t:=Qf.mp h
theorem OO{α:Type _}{β:Type _}{b:β}{f:α→β}{l:List α}(h:b∈l.map f):∃a,a∈l∧f a=b:=Rt.mp h
theorem OP{α:Type _}{a b:α}{l:List α}(h:a∈b::l):a=b∨a∈l:=QI.mp h
theorem OQ{α:Type _}{l:List α}{i:Nat}{a:α}(h:l[i]?=some a):a∈l:=List.mem_of_getElem? h
abbrev jW:=Sum Int Str
def uT:jW→OR→Bool
  | .inl k,v=>Value.isInt k v
  | .inr x,v=>Value.isStrOf x v
def KF(w:OW):jW→Int
  | .inl k=>hashInt k
  | .inr x=>hashStr w x
theorem bU:∀{k:jW} {v:OR},uT k v=true→(∃i t,k=Sum.inl i∧v=Value.int i t)∨(∃x t,k=Sum.inr x∧v=Value.str x t)
  | .inl i,v,h=>by
    obtain⟨t,e⟩:=Value.isInt_shape (k:=i) (v:=v) h
    exact .inl ⟨i,t,rfl,e⟩
  | .inr x,v,h=>by
    obtain⟨t,e⟩:=Value.isStrOf_shape (x:=x) (v:=v) h
    exact .inr ⟨x,t,rfl,e⟩
theorem kG(x:Str)(t:Tok):uT (.inr x) (.str x t)=true:=by simp [uT,Value.isStrOf]
theorem FP(a b:Int):decide ((Sum.inl a:jW)=Sum.inl b)=(a==b):=by
  by_cases e:a=b
  · subst e;simp
  · have h:¬(Sum.inl a:jW)=Sum.inl b:=fun q=>e (Sum.inl.inj q)
    rw [decide_eq_false h]
    exact(beq_eq_false_iff_ne.mpr e).symm
theorem FU(a b:Str):decide ((Sum.inr a:jW)=Sum.inr b)=decide (a=b):=by
  by_cases e:a=b
  · subst e;simp
  · have h:¬(Sum.inr a:jW)=Sum.inr b:=fun q=>e (Sum.inr.inj q)
    rw [decide_eq_false h,decide_eq_false e]
theorem FQ(a:Int)(b:Str):decide ((Sum.inl a:jW)=Sum.inr b)=false:=decide_eq_false (fun q=>nomatch q)
theorem FR(a:Str)(b:Int):decide ((Sum.inr a:jW)=Sum.inl b)=false:=decide_eq_false (fun q=>nomatch q)
def fH(prog:OZ)(w:OW):PySem.KeyKind prog w jW where
  is:=uT
  hash:=KF w
  inj:=fun v a b ha hb=>by
    rcases bU ha with ⟨i,t,rfl,rfl⟩ | ⟨x,t,rfl,rfl⟩
    · rcases bU hb with ⟨j,u,rfl,e⟩ | ⟨y,u,rfl,e⟩
      · injection e with e1 _;rw [e1]
      · exact nomatch e
    · rcases bU hb with ⟨j,u,rfl,e⟩ | ⟨y,u,rfl,e⟩
      · exact nomatch e
      · injection e with e1 _;rw [e1]
  byValue:=fun k v h=>by
    rcases bU h with ⟨i,t,rfl,rfl⟩ | ⟨x,t,rfl,rfl⟩<;>rfl
  pyHash:=fun hv h=>by
    rcases bU hv with ⟨i,t,rfl,rfl⟩ | ⟨x,t,rfl,rfl⟩
    · exact wpAny_pyHash_int h
    · exact wpAny_pyHash_str h
  eqBool:=fun hu hv h=>by
    rcases bU hu with ⟨i,t,rfl,rfl⟩ | ⟨x,t,rfl,rfl⟩
    · rcases bU hv with ⟨j,u,rfl,rfl⟩ | ⟨y,u,rfl,rfl⟩
      · rw [FP] at h;exact wpAny_eqBool_int h
      · rw [FQ] at h;exact SeqAt.EqAt.int_str i t y u _ _ _ _ h
    · rcases bU hv with ⟨j,u,rfl,rfl⟩ | ⟨y,u,rfl,rfl⟩
      · rw [FR] at h;exact SeqAt.EqAt.str_int x t j u _ _ _ _ h
      · rw [FU] at h;exact wpAny_eqBool_str h
  «strs»:=fun k x t v h=>by
    rcases bU h with ⟨i,u,rfl,e⟩ | ⟨y,u,rfl,e⟩
    · exact nomatch e
    · injection e with e1 _
      subst e1
      cases v<;>rfl
inductive V where
  | non | bl (b:Bool) | int (i:Int) | str (x:Str) | byt (b:Array UInt8) | flt (b:UInt64) | ref (a:xM) | ty (n:String)
  deriving DecidableEq
def bL:V→OR→Prop
  | .non,u=>u=Value.none
  | .bl b,u=>u=Value.bool b
  | .int i,u=>∃t,u=Value.int i t
  | .str x,u=>∃t,u=Value.str x t
  | .byt b,u=>∃t,u=Value.bytes b t
  | .flt b,u=>∃t,u=Value.float b t
  | .ref a,u=>u=Value.ref a
  | .ty n,u=>u=Value.type n
abbrev aV:List V→List OR→Prop:=Paired bL
theorem aV.length{xs:List V}{us:List OR}(r:aV xs us):xs.length=us.length:=Paired.length r
theorem aV.get:∀{xs:List V} {us:List OR} {i:Nat} {x:V},aV xs us→xs[i]?=some x→∃u,us[i]?=some u∧bL x u
  | _,_,_,_,.nil,e=>by simp at e
  | _,_,0,_,.cons r _,e=>by simp at e;subst e;exact⟨_,rfl,r⟩
  | _,_,i+1,x,.cons _ t,e=>by
    obtain⟨u,h1,h2⟩:=aV.get (i:=i) (x:=x) t (by simpa using e)
    exact⟨u,by simpa using h1,h2⟩
theorem aV.append:∀{xs ys:List V} {us ws:List OR},aV xs us→aV ys ws→aV (xs++ys) (us++ws)
  | _,_,_,_,.nil,s=>s
  | _,_,_,_,.cons r t,s=>.cons r (aV.append t s)
theorem aV.take:∀{xs:List V} {us:List OR} (n:Nat),aV xs us→aV (xs.take n) (us.take n)
  | _,_,0,_=>.nil
  | _,_,_+1,.nil=>.nil
  | _,_,n+1,.cons r t=>.cons r (aV.take n t)
theorem aV.drop:∀{xs:List V} {us:List OR} (n:Nat),aV xs us→aV (xs.drop n) (us.drop n)
  | _,_,0,r=>r
  | _,_,_+1,.nil=>.nil
  | _,_,n+1,.cons _ t=>aV.drop n t
def qS:Option V→Option OR→Prop
  | some v,some u=>bL v u
  | none,none=>True
  | _,_=>False
def KV{κ:Type}:List (κ × V)→List (κ × OR)→Prop:=Paired fun(p:κ × V) (q:κ × OR)=>p.1=q.1∧bL p.2 q.2
def kV:jW→V
  | .inl i=>.int i
  | .inr x=>.str x
inductive HO where
  /-- a list -/
  | lst (xs:List V)
  /-- a tuple (never changes) -/
  | tup (xs:List V)
  /-- a dict whose keys are ints and texts; one whose keys are tuples of ints and texts (the empty one is both) -/
  | dK (kvs:List (jW × V)) | dT (kvs:List (List jW × V))
  /-- a set of ints: its members, its size -/
  | set (S:Int→Bool) (n:Nat)
  /-- an instance of the class at C, its dict at dx, its attributes -/
  | ins (C dx:xM) (fs:List (Str × V))
  /-- the dict of the instance at x -/
  | own (x:xM)
  /-- the dict of an exception -/
  | xd (fs:List (Str × V))
  /-- a bound method, f of x -/
  | met (f x:xM)
  /-- a range object lo, lo + 1, .. below hi -/
  | rng (lo hi:Int)
  /-- a thing that is known to the object (the script; a dict while a loop walks it): read, never written while it is so -/
  | frz (o:Obj) (u:HO)
  /-- a code object's table -/
  | tbl (ps:Array OR)
  /-- any other thing, by what is true of its one object (a def of one's own: SetO a S n := HO.ext fun h => ..) -/
  | ext (φ:OY→Prop)
abbrev Hp:=xM→Option HO
def bE(H:Hp)(a:xM)(o:HO):Hp:=fun b=>if b=a then some o else H b
theorem av{H:Hp}{a:xM}{o:HO}:bE H a o a=some o:=by unfold bE;rw [if_pos rfl]
theorem ax{H:Hp}{a b:xM}{o:HO}(h:b≠a):bE H a o b=H b:=by unfold bE;rw [if_neg h]
theorem fg{H:Hp}{a b:xM}{o:HO}(h:H a=some o)(h':H b=none):a≠b:=by
  intro e;subst e;rw [h] at h';cases h'
def sO(h:OY)(a:xM)(items:Array OR):Prop:=∃o,h.get? a=some o∧o.cls=.type "tuple"∧∃n,o.data=.seq items n∧o.dict=none
theorem sO.tup{h:OY}{a:xM}{items:Array OR}(x:sO h a items):IsTup h a items:=let ⟨o,ho,hc,n,hd,_⟩:=x;⟨o,ho,hc,n,hd⟩
theorem sO.new(h:OY)(items:Array OR):sO (h.push {cls:=.type "tuple",data:=.seq items}) h.objs.size items:=⟨_,Qm _ rfl,rfl,_,rfl,rfl⟩
section
variable(P:OZ)(w:OW)
def gy(H:Hp)(h:OY)(a:xM):HO→Prop
  | .lst xs=>xs.length≤Pk∧∃(its:List OR) (n:Nat),aV xs its∧h.get? a=some {cls:=.type "list",data:=.seq its.toArray n}
  | .tup xs=>xs.length≤Pk∧∃its:List OR,aV xs its∧sO h a its.toArray
  | .dK kvs=>kvs.length≤Pk∧(a==sysModules)=false∧∃vs,KV kvs vs∧h.DictOf (fH P w) a vs
  | .dT kvs=>kvs.length≤Pk∧(a==sysModules)=false∧∃xs:List (List jW × xM × OR),
      Paired (fun(p:List jW × V) (q:List jW × xM × OR)=>p.1=q.1∧H q.2.1=some (.tup (p.1.map kV))∧bL p.2 q.2.2) kvs xs∧
      ∃o es ep,h.get? a=some o∧o.ExactDict∧o.data=.dict es ep∧es.toList=xs.map (entryOfKey (tupleKind (fH P w)))∧(xs.map (·.1)).Nodup
  | .set S n=>h.SetOf (intKind P w) a S n
  | .ins C dx fs=>H dx=some (.own a)∧fs.length≤1000∧dx≠a∧h.get? a=some (Rg C dx)∧
      ∃mA,h.Ns1 dx mA∧(∀f,qS (fs.lookup f) (mA f))∧PySem.Within mA (fs.map (·.1))
  | .own _=>∃o,h.get? a=some o
  | .xd fs=>∃mA,h.Ns1 a mA∧∀f,qS (fs.lookup f) (mA f)
  | .rng lo hi=>∃t u v,h.get? a=some {cls:=.type "range",data:=.fields #[.int lo t,.int hi u,.int 1 v]}
  | .frz o u=>h.get? a=some o∧gy H h a u
  | .tbl ps=>h.get? a=some {cls:=.none,data:=.fields ps}
  | .met f x=>h.get? a=some (SW (.ref f) (.ref x))
  | .ext φ=>φ h∧(∃o,h.get? a=some o)∧∀h1 h2:OY,φ h1→(∀o,h1.get? a=some o→h2.get? a=some o)→φ h2
def oF(H:Hp)(h:OY):Prop:=∀a o,H a=some o→gy P w H h a o
end
section
variable{P:OZ}{w:OW}{H H':Hp}{h h':OY}{a:xM}{o:HO}
theorem gy.lt(x:gy P w H h a o):a < h.objs.size:=by
  cases o with
  | lst xs=>obtain⟨_,_,_,_,e⟩:=x;exact Pr e
  | tup xs=>obtain⟨_,_,_,p⟩:=x;exact p.tup.lt
  | dK kvs=>obtain⟨_,_,_,_,o,_,_,e,_⟩:=x;exact Pr e
  | dT kvs=>obtain⟨_,_,_,_,o,_,_,e,_⟩:=x;exact Pr e
  | set S n=>obtain⟨o,_,_,_,e,_⟩:=x;exact Pr e
  | ins C dx fs=>obtain⟨_,_,_,e,_⟩:=x;exact Pr e
  | own y=>obtain⟨_,e⟩:=x;exact Pr e
  | xd fs=>obtain⟨_,⟨_,_,_,e,_⟩,_⟩:=x;exact Pr e
  | rng lo hi=>obtain⟨_,_,_,e⟩:=x;exact Pr e
  | frz ob u=>obtain⟨e,_⟩:=x;exact Pr e
  | tbl ps=>exact Pr (show h.get? a=some _ from x)
  | met f y=>exact Pr (show h.get? a=some _ from x)
  | ext φ=>obtain⟨_,⟨_,e⟩,_⟩:=x;exact Pr e
theorem Paired.mapP{α β:Type}{F G:α→β→Prop}:∀{l₁:List α} {l₂:List β},Paired F l₁ l₂→(∀a b,F a b→G a b)→Paired G l₁ l₂
  | _,_,.nil,_=>.nil
  | _,_,.cons r t,f=>.cons (f _ _ r) (Paired.mapP t f)
theorem gy.stay(x:gy P w H h a o)(k:∀b u,(b=a∨H b=some (.own a))→h.get? b=some u→h'.get? b=some u)
    (ho:∀b,H b=some (.own a)→H' b=some (.own a))(ht:∀b xs,H b=some (.tup xs)→H' b=some (.tup xs)):gy P w H' h' a o:=by
  induction o with
  | lst xs=>obtain⟨z,its,n,r,e⟩:=x;exact⟨z,its,n,r,k _ _ (.inl rfl) e⟩
  | tup xs=>obtain⟨z,its,r,ob,e,c⟩:=x;exact⟨z,its,r,ob,k _ _ (.inl rfl) e,c⟩
  | dK kvs=>obtain⟨z,y,vs,r,ob,es,ep,e,c⟩:=x;exact⟨z,y,vs,r,ob,es,ep,k _ _ (.inl rfl) e,c⟩
  | dT kvs=>
    obtain⟨z,y,xs,r,ob,es,ep,e,c⟩:=x
    exact⟨z,y,xs,Paired.mapP r fun p q z=>⟨z.1,ht _ _ z.2.1,z.2.2⟩,ob,es,ep,k _ _ (.inl rfl) e,c⟩
  | set S n=>obtain⟨ob,es,ep,t,e,c⟩:=x;exact⟨ob,es,ep,t,k _ _ (.inl rfl) e,c⟩
  | ins C dx fs=>
    obtain⟨d,z,ne,e,mA,⟨od,es,ep,e2,c⟩,r⟩:=x
    exact⟨ho _ d,z,ne,k _ _ (.inl rfl) e,mA,⟨od,es,ep,k _ _ (.inr d) e2,c⟩,r⟩
  | own y=>obtain⟨ob,e⟩:=x;exact⟨ob,k _ _ (.inl rfl) e⟩
  | xd fs=>obtain⟨mA,⟨od,es,ep,e,c⟩,r⟩:=x;exact⟨mA,⟨od,es,ep,k _ _ (.inl rfl) e,c⟩,r⟩
  | rng lo hi=>obtain⟨t,u,v,e⟩:=x;exact⟨t,u,v,k _ _ (.inl rfl) e⟩
  | frz ob u ih=>obtain⟨e,q⟩:=x;exact⟨k _ _ (.inl rfl) e,ih q⟩
  | tbl ps=>
    have e:h.get? a=some {cls:=.none,data:=.fields ps}:=x
    show h'.get? a=some {cls:=.none,data:=.fields ps}
    exact k a _ (.inl rfl) e
  | met f y=>
    have e:h.get? a=some (SW (.ref f) (.ref y)):=x
    show h'.get? a=some (SW (.ref f) (.ref y))
    exact k a _ (.inl rfl) e
  | ext φ=>obtain⟨p,⟨o,e⟩,st⟩:=x;exact⟨st _ _ p fun o q=>k _ _ (.inl rfl) q,⟨o,k _ _ (.inl rfl) e⟩,st⟩
theorem oF.lt(x:oF P w H h)(e:H a=some o):a < h.objs.size:=(x a o e).lt
theorem oF.fresh(x:oF P w H h)(e:h.objs.size≤a):H a=none:=by
  cases q:H a with
  | none=>rfl
  | some u=>exact absurd (Qa (x.lt q) e) (Re _)
theorem oF.kept(x:oF P w H h)(k:∀b u,h.get? b=some u→h'.get? b=some u):oF P w H h':=fun a o e=>
  (x a o e).stay (fun b u _ q=>k b u q) (fun _ q=>q) fun _ _ q=>q
theorem oF.laid(x:oF P w H h)(k:∀b u,h.get? b=some u→h'.get? b=some u)(hp:h.objs.size≤a)(new:gy P w (bE H a o) h' a o):oF P w (bE H a o) h':=fun b u e=>by
  have hn:=x.fresh hp
  by_cases hb:b=a
  · subst hb;rw [av] at e;cases e;exact new
  · rw [ax hb] at e
    exact(x b u e).stay (fun c v _ q=>k c v q) (fun c q=>by rw [ax (fg q hn)];exact q) fun c xs q=>by rw [ax (fg q hn)];exact q
end
def Rd(H:Hp)(a:xM)(u:HO):Prop:=H a=some u∨∃o,H a=some (.frz o u)
theorem Rd.ok{P:OZ}{w:OW}{H:Hp}{h:OY}{a:xM}{u:HO}(r:Rd H a u)(x:oF P w H h):gy P w H h a u:=by
  rcases r with r | ⟨o,r⟩
  · exact x a u r
  · obtain⟨_,q⟩:=x a _ r
    exact q
def JX:Option HO→Prop
  | some (.lst _)=>True
  | some (.dK _)=>True
  | some (.dT _)=>True
  | some (.set _ _)=>True
  | some (.ins _ _ _)=>True
  | some (.ext _)=>True
  | _=>False
section
variable{P:OZ}{w:OW}{H:Hp}{h h':OY}{x e:xM}{o':HO}
theorem oF.write(ok:oF P w H h)(mu:JX (H x))(he:e=x∨H e=some (.own x))(k:∀b u,b≠e→h.get? b=some u→h'.get? b=some u)(heo:∃u,h'.get? e=some u)
    (new:gy P w (bE H x o') h' x o'):oF P w (bE H x o') h':=fun b u q=>by
  have nown:∀c y,H c=some (.own y)→c≠x:=fun c y r z=>by subst z;rw [r] at mu;exact mu
  have ntup:∀c xs,H c=some (.tup xs)→c≠x:=fun c xs r z=>by subst z;rw [r] at mu;exact mu
  by_cases hb:b=x
  · subst hb;rw [av] at q;cases q;exact new
  · rw [ax hb] at q
    by_cases hbe:b=e
    · have q':H b=some (.own x):=by
        rcases he with z | z
        · exact absurd (hbe.trans z) hb
        · rw [hbe];exact z
      rw [q] at q';cases q'
      obtain⟨v,hv⟩:=heo
      exact⟨v,by rw [hbe];exact hv⟩
    · refine(ok b u q).stay (fun c v hc r=>k c v ?_ r) (fun c r=>by rw [ax (nown c b r)];exact r) fun c xs r=>by rw [ax (ntup c xs r)];exact r
      rcases hc with rfl | hc
      · exact hbe
      · rintro rfl
        rcases he with z | z
        · exact nown c b hc z
        · rw [hc] at z;cases z;exact hb rfl
end
structure Un (fs ex:List xM) (H H':Hp) (h h':OY):Prop where
  keep:∀b o,h.get? b=some o→H b=none→b∉fs→b∉ex→h'.get? b=some o
  slot:∀b o,h.get? b=some o→H b=none→b∈fs→b∉ex→∃sl,h'.get? b=some {o with slots:=sl}
  free:∀b o,h.get? b=some o→H b=none→b∉ex→H' b=none
  there:∀b o,h.get? b=some o→b∉ex→∃o',h'.get? b=some o'
  tups:∀b xs,H b=some (.tup xs)→H' b=some (.tup xs)
  frzs:∀b o u,H b=some (.frz o u)→H' b=some (.frz o u)
  tbls:∀b ps,H b=some (.tbl ps)→∃more,H' b=some (.tbl (ps++more))
section
variable{fs fs' ex ex':List xM}{H H1 H2:Hp}{h h1 h2 h':OY}{a x e:xM}{o:HO}
theorem Un.any(u:Un fs ex H H1 h h1){b:xM}{ob:Obj}(q:h.get? b=some ob)(n:H b=none)(hx:b∉ex):∃sl,h1.get? b=some {ob with slots:=sl}:=by
  by_cases hb:b∈fs
  · exact u.slot b ob q n hb hx
  · exact⟨ob.slots,u.keep b ob q n hb hx⟩
theorem Un.kept(k:∀b u,h.get? b=some u→h'.get? b=some u):Un fs ex H H h h':=
  ⟨fun b ob q _ _ _=>k b ob q,fun b ob q _ _ _=>⟨ob.slots,k b ob q⟩,fun _ _ _ n _=>n,fun b ob q _=>⟨ob,k b ob q⟩,fun _ _ q=>q,fun _ _ _ q=>q,fun _ ps q=>⟨#[],by rw [q];simp⟩⟩
theorem Un.refl:Un fs ex H H h h:=Un.kept fun _ _ q=>q
theorem Un.laid(k:∀b u,h.get? b=some u→h'.get? b=some u)(hp:h.objs.size≤a)(hn:H a=none):Un fs ex H (bE H a o) h h' where
  keep:=fun b u q _ _ _=>k b u q
  slot:=fun b u q _ _ _=>⟨u.slots,k b u q⟩
  free:=fun b u q n _=>by rw [ax (Qn (Qa (Pr q) hp))];exact n
  there:=fun b u q _=>⟨u,k b u q⟩
  tups:=fun b xs q=>by rw [ax (fg q hn)];exact q
  frzs:=fun b u xs q=>by rw [ax (fg q hn)];exact q
  tbls:=fun b ps q=>⟨#[],by rw [ax (fg q hn),q];simp⟩
theorem Un.write(mu:JX (H x))(he:e=x∨H e=some (.own x))(k:∀b u,b≠e→h.get? b=some u→h'.get? b=some u)(heo:∃u,h'.get? e=some u):Un fs ex H (bE H x o) h h':=by
  have hx:∀b,H b=none→b≠x:=fun b n z=>by subst z;rw [n] at mu;exact mu
  have hb:∀b,H b=none→b≠e:=fun b n z=>by
    subst z
    rcases he with r | r
    · exact hx b n r
    · rw [n] at r;cases r
  have hm:∀b u,H b=some u→¬JX (some u)→b≠x:=fun b u q nm z=>by subst z;rw [q] at mu;exact nm mu
  refine⟨fun b u q n _ _=>k b u (hb b n) q,fun b u q n _ _=>⟨u.slots,k b u (hb b n) q⟩,fun b u q n _=>by rw [ax (hx b n)];exact n,fun b u q _=>?_,
    fun b xs q=>by rw [ax (hm b _ q fun z=>z)];exact q,fun b u xs q=>by rw [ax (hm b _ q fun z=>z)];exact q,fun b ps q=>⟨#[],by rw [ax (hm b _ q fun z=>z),q];simp⟩⟩
  by_cases hbe:b=e
  · subst hbe;exact heo
  · exact⟨u,k b u hbe q⟩
end
def J8(h:OY)(H:Hp):List xM:=(QS h.objs.size).filter fun a=>(H a).isSome
def tH(h:OY)(H:Hp):OY:=PySem.W.hideAll h (J8 h H)
theorem yO(h:OY)(H:Hp):(tH h H).objs.size=h.objs.size:=PySem.W.hideAll_size _ _
theorem Ah{h:OY}{H:Hp}{b:xM}{o:Obj}(e:h.get? b=some o)(n:H b=none):(tH h H).get? b=some o:=
  PySem.W.hideAll_get _ e fun hm=>by
    have q:(H b).isSome=true:=(QJ.mp hm).2
    rw [n] at q;simp at q
theorem Dc{h:OY}{H:Hp}{b:xM}{o:Obj}(e:(tH h H).get? b=some o):h.get? b=some o∧H b=none:=by
  have e':h.get? b=some o:=PySem.W.of_hideAll (J8 h H) e
  refine⟨e',?_⟩
  cases q:H b with
  | none=>rfl
  | some x=>
    have hm:b∈J8 h H:=QJ.mpr ⟨Ru.mpr (Pr e'),by simp [q]⟩
    have z:(tH h H).get? b=none:=PySem.W.hideAll_none (J8 h H) hm
    rw [z] at e;cases e
def sQ(g h:OY)(L:xM):List (xM × Obj):=(QS h.objs.size).filterMap fun a=>if a=L∨(g.get? a).isSome=true then none else(h.get? a).map fun o=>(a,o)
theorem p9{g h:OY}{L:xM}{p:xM × Obj}(hp:p∈sQ g h L):p.1≠L∧g.get? p.1=none∧h.get? p.1=some p.2:=by
  obtain⟨b,_,e⟩:=SX.mp hp
  split at e
  · cases e
  · rename_i hn
    cases q:h.get? b with
    | none=>rw [q] at e;simp at e
    | some u=>
      rw [q] at e
      simp only [Qe,Rr] at e
      subst e
      refine⟨fun z=>hn (.inl z),?_,q⟩
      show g.get? b=none
      cases r:g.get? b with
      | none=>rfl
      | some v=>exact(hn (.inr (by simp [r]))).elim
def cA(g h:OY)(L d:xM):List (xM × Obj):=(sQ g h L).filter fun p=>decide (p.1≠d)
theorem AG{g h:OY}{L:xM}:News g L h (sQ g h L):=fun p hp=>let ⟨a,b,c⟩:=p9 hp;⟨c,a,b⟩
structure Mod (K:OU) (mg:Str→Option OR) (base:OY):Prop where
  kin:K.In base
  glob:base.Ns PB mg
  blt:∃mb,base.Ns builtinsNs mb∧∀x:Str,x≠"__name__"→mb x=QK x
  nolimit:base.NoLimit
structure Cx where
  prog:OZ
  w:OW
  K:OU
  mg:Str→Option OR
  base:OY
  A:Pb
  N:List Str
  s₀:OS
  H₀:Hp
  env:Env
  outer:List Env
  stack:List Env
  ex:List xM
  fn:Str→Bool
  calm:Bool
  pn:List (xM × Obj)
  xe:OR→OS→Prop
def z3(l:List Env):List xM:=l.filterMap (·.frame)
abbrev Cx.fs(X:Cx):List xM:=z3 X.outer
def HP(sc:Pz)(x:Str):Prop:=sc.names.lookup x=some .local∨sc.names.lookup x=some .cell∨sc.names.lookup x=some .free
def zx(sc:Pz)(x:Str):Prop:=sc.names.lookup x=some .local∨sc.names.lookup x=some .cell
def Ke(env:Env)(h:OY)(m:Str→Option OR)(x:Str)(u:OR):Prop:=
  (env.kindOf x=some .local∧m x=some u)∨((env.kindOf x=some .cell∨env.kindOf x=some .free)∧∃c,env.cells.lookup x=some c∧h.IsCell c (some u))
structure Cx.Ok (X:Cx):Prop where
  mod:Mod X.K X.mg X.base
  kind:X.env.scope.kind=.function
  glob:X.env.globals=PB
  blt:X.env.builtins=builtinsNs
  above:X.s₀.heap.objs.size≤X.env.locals
  inj:∀x y c,X.env.cells.lookup x=some c→X.env.cells.lookup y=some c→x=y
  has:∀x,(X.env.kindOf x=some .cell∨X.env.kindOf x=some .free)→∃c,X.env.cells.lookup x=some c
  cab:∀x c,X.fn x=true→X.env.cells.lookup x=some c→X.s₀.heap.objs.size≤c
  hd:X.calm=true→X.A.handled=none
  frames:X.A.frames=some X.stack
  stk:X.stack=X.outer∨(X.stack=X.env::X.outer∧X.env.frame=some X.env.locals)
  exf:∀b∈X.ex,b≠X.env.locals∧∀x c,X.env.cells.lookup x=some c→c≠b
  bs:∀b o,X.base.get? b=some o→X.s₀.heap.get? b=some o∧X.H₀ b=none
  bsz:X.base.objs.size≤X.s₀.heap.objs.size
  noex:∀b o,X.base.get? b=some o→b∉X.ex
  exfs:∀b∈X.ex,b∉X.fs
  funs:X.s₀.heap.FunFrames X.base X.outer
  frf:∀b∈X.fs,X.H₀ b=none
structure aM (X:Cx) (pins:List (xM × Obj)) (σ:List (Option V)) (H:Hp) (s:OS):Prop where
  ok:X.Ok
  os:s.os=X.s₀.os
  bare:AllBare s.gens
  base:Un X.fs X.ex X.H₀ H X.s₀.heap s.heap
  loc:∃m,s.heap.Ns X.env.locals m∧∀(i:Nat) (x:Str) (v:V),X.N[i]?=some x→σ[i]?=some (some v)→HP X.env.scope x→∃u,bL v u∧Ke X.env s.heap m x u
  cell:∀x c,X.env.cells.lookup x=some c→∃v,s.heap.IsCell c v
  free:H X.env.locals=none
  freeC:∀x c,X.env.cells.lookup x=some c→H c=none
  pin:∀p∈X.pn++pins,s.heap.get? p.1=some p.2∧H p.1=none∧p.1≠X.env.locals∧p.1∉X.fs∧∀v,p.2.data≠.cell v
  hok:oF X.prog X.w H s.heap
  len:σ.length=X.N.length
section
variable{X:Cx}{pins:List (xM × Obj)}{σ:List (Option V)}{H H':Hp}{s:OS}{h':OY}
theorem Cx.Ok.nofr(ok:X.Ok){b:xM}{o:Obj}(e:X.base.get? b=some o):b∉X.fs:=fun hb=>by
  have:=(ok.funs.mem hb).1
  rw [e] at this;cases this
theorem aM.bs(I:aM X pins σ H s):∀b o,X.base.get? b=some o→s.heap.get? b=some o∧H b=none:=fun b o e=>
  ⟨I.base.keep b o (I.ok.bs b o e).1 (I.ok.bs b o e).2 (I.ok.nofr e) (I.ok.noex b o e),I.base.free b o (I.ok.bs b o e).1 (I.ok.bs b o e).2 (I.ok.noex b o e)⟩
theorem aM.bk(I:aM X pins σ H s):∀b o,X.base.get? b=some o→s.heap.get? b=some o:=fun b o e=>(I.bs b o e).1
theorem aM.mod(I:aM X pins σ H s):Mod X.K X.mg X.base:=I.ok.mod
theorem aM.kIn(I:aM X pins σ H s):X.K.In s.heap:=I.ok.mod.kin.keeps I.bk
theorem aM.fr(I:aM X pins σ H s):∃m,Fr X.base X.env.locals s.heap m:=
  let ⟨m,hn,_⟩:=I.loc
  ⟨m,hn,I.bk,PK I.ok.bsz I.ok.above⟩
theorem aM.lt(I:aM X pins σ H s):X.env.locals < s.heap.objs.size:=let ⟨_,hn,_⟩:=I.loc;hn.lt
theorem aM.sz(I:aM X pins σ H s):X.s₀.heap.objs.size≤s.heap.objs.size:=PK I.ok.above (Rw I.lt)
theorem aM.nofs(I:aM X pins σ H s){a:xM}(h:s.heap.objs.size≤a):a∉X.fs:=fun hb=>by
  obtain⟨_,o,ho,_⟩:=I.ok.funs.mem hb
  exact absurd (Qa (Pr ho) (PK I.sz h)) (Re _)
theorem aM.cne(I:aM X pins σ H s):∀x c,X.env.cells.lookup x=some c→c≠X.env.locals:=fun x c e z=>by
  obtain⟨v,o,ho,hd⟩:=I.cell x c e
  obtain⟨m,⟨o',es,ep,ho',hd',_⟩,_⟩:=I.loc
  rw [z,ho'] at ho;cases ho;rw [hd'] at hd;cases hd
theorem aM.funs(I:aM X pins σ H s):s.heap.FunFrames X.base X.outer:=by
  have all:∀(l:List Env),(∀b∈z3 l,b∈X.fs)→X.s₀.heap.FunFrames X.base l→s.heap.FunFrames X.base l:=by
    intro l
    induction l with
    | nil=>intro _ _;trivial
    | cons env r ih=>
      intro hs hl
      obtain⟨hk,⟨L,o,hf,hn,ho,hd⟩,hr⟩:=hl
      have hL:L∈X.fs:=hs L (by unfold z3;rw [SY,hf];exact QT)
      obtain⟨sl,e⟩:=I.base.slot L o ho (I.ok.frf L hL) hL fun z=>I.ok.exfs L z hL
      exact⟨hk,⟨L,_,hf,hn,e,hd⟩,ih (fun b hb=>hs b (by unfold z3;rw [SY,hf];exact PP _ hb)) hr⟩
  exact all X.outer (fun _ hb=>hb) I.ok.funs
theorem aM.stack(I:aM X pins σ H s):s.heap.FunFrames X.base X.stack:=by
  rcases I.ok.stk with e | ⟨e,hf⟩
  · rw [e];exact I.funs
  · rw [e]
    obtain⟨m,hn,_⟩:=I.loc
    refine .cons (by rw [I.ok.kind];decide) hf hn ?_ I.funs
    exact Heap.get?_none_of_le (PK I.ok.bsz I.ok.above)
theorem aM.stkSub(I:aM X pins σ H s):∀b∈z3 X.stack,b∈X.env.locals::X.fs:=fun b hb=>by
  rcases I.ok.stk with e | ⟨e,hf⟩
  · rw [e] at hb;exact PP _ hb
  · rw [e] at hb
    unfold z3 at hb
    rw [SY,hf] at hb
    exact hb
theorem aM.stkFree(I:aM X pins σ H s):∀b∈z3 X.stack,H b=none:=fun b hb=>by
  rcases OP (I.stkSub b hb) with e | hb
  · rw [e];exact I.free
  · obtain⟨_,o,ho,_⟩:=I.ok.funs.mem hb
    exact I.base.free b o ho (I.ok.frf b hb) fun z=>I.ok.exfs b z hb
theorem aM.step{g':Array GenState}{t':Nat}{d':Drawn}{ch:List xM}(I:aM X pins σ H s)
    (hch:∀b∈ch,(b∈X.ex∨X.s₀.heap.objs.size≤b)∧b≠X.env.locals∧(∀x c,X.env.cells.lookup x=some c→c≠b)∧∀p∈X.pn++pins,p.1≠b)
    (keep:∀b o,b≠X.env.locals→b∉X.fs→b∉ch→s.heap.get? b=some o→H b=none→h'.get? b=some o)
    (slot:∀b o,b≠X.env.locals→b∈X.fs→b∉ch→s.heap.get? b=some o→H b=none→∃sl,h'.get? b=some {o with slots:=sl})(free:∀b o,b∉ch→s.heap.get? b=some o→H b=none→H' b=none)
    (there:∀b o,b∉ch→s.heap.get? b=some o→∃o',h'.get? b=some o')
    (tups:∀b xs,H b=some (.tup xs)→H' b=some (.tup xs))(frzs:∀b o u,H b=some (.frz o u)→H' b=some (.frz o u))(tbls:∀b ps,H b=some (.tbl ps)→∃more,H' b=some (.tbl (ps++more)))
    (ns:∀m,s.heap.Ns X.env.locals m→h'.Ns X.env.locals m)(hok:oF X.prog X.w H' h')(hg:AllBare g'):
    aM X pins σ H' {s with heap:=h',gens:=g',drawn:=d',toks:=t'}:=by
  have neL:∀b o,X.s₀.heap.get? b=some o→b≠X.env.locals:=fun b o e=>Qn (Qa (Pr e) I.ok.above)
  have neC:∀b o,X.s₀.heap.get? b=some o→b∉X.ex→b∉ch:=fun b o e hx hb=>by
    rcases(hch b hb).1 with z | z
    · exact hx z
    · exact absurd (Qa (Pr e) z) (Re _)
  have cellK:∀x c,X.env.cells.lookup x=some c→∀v,s.heap.IsCell c v→h'.IsCell c v:=fun x c e v ⟨o,ho,hd⟩=>by
    have nch:c∉ch:=fun z=>(hch c z).2.2.1 x c e rfl
    by_cases hc:c∈X.fs
    · obtain⟨sl,q⟩:=slot c o (I.cne x c e) hc nch ho (I.freeC x c e)
      exact⟨_,q,hd⟩
    · exact⟨o,keep c o (I.cne x c e) hc nch ho (I.freeC x c e),hd⟩
  refine⟨I.ok,I.os,hg,⟨fun b o e n hb hx=>?_,fun b o e n hb hx=>?_,fun b o e n hx=>?_,fun b o e hx=>?_,fun b xs e=>tups b xs (I.base.tups b xs e),fun b o xs e=>frzs b o xs (I.base.frzs b o xs e),fun b ps e=>?_⟩,?_,fun x c e=>?_,?_,fun x c e=>?_,fun p hp=>?_,hok,I.len⟩
  · exact keep b o (neL b o e) hb (neC b o e hx) (I.base.keep b o e n hb hx) (I.base.free b o e n hx)
  · obtain⟨sl,e1⟩:=I.base.slot b o e n hb hx
    obtain⟨sl',e2⟩:=slot b _ (neL b o e) hb (neC b o e hx) e1 (I.base.free b o e n hx)
    exact⟨sl',e2⟩
  · obtain⟨o',e1⟩:=I.base.there b o e hx
    exact free b o' (neC b o e hx) e1 (I.base.free b o e n hx)
  · obtain⟨o',e1⟩:=I.base.there b o e hx
    exact there b o' (neC b o e hx) e1
  · obtain⟨m1,e1⟩:=I.base.tbls b ps e
    obtain⟨m2,e2⟩:=tbls b _ e1
    exact⟨m1++m2,by rw [e2,Array.append_assoc]⟩
  · obtain⟨m,hn,hl⟩:=I.loc
    refine⟨m,ns m hn,fun i x v e1 e2 e3=>?_⟩
    obtain⟨u,r,l⟩:=hl i x v e1 e2 e3
    refine⟨u,r,?_⟩
    rcases l with l | ⟨k,c,e,z⟩
    · exact .inl l
    · exact .inr ⟨k,c,e,cellK x c e _ z⟩
  · obtain⟨v,z⟩:=I.cell x c e
    exact⟨v,cellK x c e v z⟩
  · obtain⟨m,⟨o,_,_,ho,_⟩,_⟩:=I.loc
    exact free _ o (fun z=>(hch _ z).2.1 rfl) ho I.free
  · obtain⟨v,o,ho,hd⟩:=I.cell x c e
    exact free c o (fun z=>(hch c z).2.2.1 x c e rfl) ho (I.freeC x c e)
  · obtain⟨e,n,ne,nf,d⟩:=I.pin p hp
    have nch:p.1∉ch:=fun z=>(hch p.1 z).2.2.2 p hp rfl
    exact⟨keep p.1 p.2 ne nf nch e n,free p.1 p.2 nch e n,ne,nf,d⟩
theorem aM.un{t':Nat}(I:aM X pins σ H s)(u:Un X.fs [] H H' s.heap h')(hok:oF X.prog X.w H' h'):aM X pins σ H' {s with heap:=h',toks:=t'}:=by
  obtain⟨m,⟨o,es,ep,ho,r⟩,_⟩:=id I.loc
  obtain⟨sl,hL⟩:=u.any ho I.free (by simp)
  exact I.step (g':=s.gens) (d':=s.drawn) (ch:=[]) (fun _ z=>nomatch z) (fun b o _ hb _ e n=>u.keep b o e n hb (by simp)) (fun b o _ hb _ e n=>u.slot b o e n hb (by simp)) (fun b o _ e n=>u.free b o e n (by simp)) (fun b o _ e=>u.there b o e (by simp)) u.tups u.frzs u.tbls (fun m' hm=>by
    obtain⟨o',es',ep',ho',r'⟩:=hm
    rw [ho] at ho';cases ho'
    exact⟨_,es',ep',hL,r'⟩) hok I.bare
theorem aM.call{g':Array GenState}{t':Nat}{d':Drawn}{ch:List xM}(I:aM X pins σ H s)(u:Un (z3 X.stack) ch H H' s.heap h')(hok:oF X.prog X.w H' h')(hg:AllBare g')
    (hch:∀b∈ch,(b∈X.ex∨X.s₀.heap.objs.size≤b)∧b≠X.env.locals∧(∀x c,X.env.cells.lookup x=some c→c≠b)∧∀p∈X.pn++pins,p.1≠b):
    aM X pins σ H' {s with heap:=h',gens:=g',drawn:=d',toks:=t'}:=by
  obtain⟨m,⟨o,es,ep,ho,r⟩,_⟩:=id I.loc
  obtain⟨sl,hL⟩:=u.any ho I.free fun z=>(hch _ z).2.1 rfl
  exact I.step (ch:=ch) hch (fun b o hL hb hc e n=>u.keep b o e n (fun z=>(OP (I.stkSub b z)).elim hL hb) hc) (fun b o _ _ hc e n=>u.any e n hc) (fun b o hc e n=>u.free b o e n hc) (fun b o hc e=>u.there b o e hc) u.tups u.frzs u.tbls (fun m' hm=>by
    obtain⟨o',es',ep',ho',r'⟩:=hm
    rw [ho] at ho';cases ho'
    exact⟨_,es',ep',hL,r'⟩) hok hg
theorem aM.turned{t':Nat}{it:xM}(I:aM X pins σ H s)(k:∀b o,b≠it→s.heap.get? b=some o→h'.get? b=some o)(hn:H it=none)(hL:it≠X.env.locals)
    (h1:it∈X.ex∨X.s₀.heap.objs.size≤it)(h2:∀x c,X.env.cells.lookup x=some c→c≠it)(h3:∀p∈X.pn++pins,p.1≠it):aM X pins σ H {s with heap:=h',toks:=t'}:=by
  have nit:∀b u,H b=some u→b≠it:=fun b u e z=>by rw [z,hn] at e;cases e
  refine I.step (g':=s.gens) (d':=s.drawn) (ch:=[it]) (fun b hb=>?_) (fun b o _ _ hc e _=>k b o (fun z=>hc (by simp [z])) e) (fun b o _ _ hc e _=>⟨o.slots,k b o (fun z=>hc (by simp [z])) e⟩) (fun _ _ _ _ n=>n)
    (fun b o hc e=>⟨o,k b o (fun z=>hc (by simp [z])) e⟩) (fun _ _ e=>e) (fun _ _ _ e=>e) (fun b ps e=>⟨#[],by rw [e];simp⟩) (fun m hm=>?_) (fun b u e=>?_) I.bare
  · have e:b=it:=by simpa using hb
    subst e
    exact⟨h1,hL,h2,h3⟩
  · obtain⟨o,es,ep,ho,r⟩:=hm
    exact⟨o,es,ep,k _ o (Pt hL) ho,r⟩
  · refine(I.hok b u e).stay (fun c v hc q=>k c v ?_ q) (fun _ q=>q) fun _ _ q=>q
    rcases hc with z | z
    · rw [z];exact nit b u e
    · exact nit c _ z
theorem aM.tok(I:aM X pins σ H s)(t:Nat):aM X pins σ H {s with toks:=t}:=I.un (h':=s.heap) (t':=t) Un.refl I.hok
theorem aM.kept{t':Nat}(I:aM X pins σ H s)(k:∀b u,s.heap.get? b=some u→h'.get? b=some u):aM X pins σ H {s with heap:=h',toks:=t'}:=I.un (Un.kept k) (I.hok.kept k)
theorem aM.laid{a:xM}{o:HO}{t':Nat}(I:aM X pins σ H s)(k:∀b u,s.heap.get? b=some u→h'.get? b=some u)(hp:s.heap.objs.size≤a)(new:gy X.prog X.w (bE H a o) h' a o):
    aM X pins σ (bE H a o) {s with heap:=h',toks:=t'}:=I.un (Un.laid k hp (I.hok.fresh hp)) (I.hok.laid k hp new)
theorem aM.write{x e:xM}{o:HO}{t':Nat}(I:aM X pins σ H s)(mu:JX (H x))(he:e=x∨H e=some (.own x))(k:∀b u,b≠e→s.heap.get? b=some u→h'.get? b=some u)(heo:∃u,h'.get? e=some u)
    (new:gy X.prog X.w (bE H x o) h' x o):aM X pins σ (bE H x o) {s with heap:=h',toks:=t'}:=I.un (Un.write mu he k heo) (I.hok.write mu he k heo new)
theorem aM.pins_of{pins':List (xM × Obj)}(I:aM X pins σ H s)(h:∀p∈pins',s.heap.get? p.1=some p.2∧H p.1=none∧p.1≠X.env.locals∧p.1∉X.fs∧∀v,p.2.data≠.cell v):aM X pins' σ H s:=
  ⟨I.ok,I.os,I.bare,I.base,I.loc,I.cell,I.free,I.freeC,fun p hp=>(ON hp).elim (fun z=>I.pin p (List.mem_append_left _ z)) (h p),I.hok,I.len⟩
theorem vd{N:List Str}(hN:N.Nodup){i j:Nat}{x:Str}(a:N[i]?=some x)(b:N[j]?=some x):i=j:=by
  obtain⟨h1,e1⟩:=OM a
  obtain⟨h2,e2⟩:=OM b
  exact(List.getElem_inj hN).mp (e1.trans e2.symm)
theorem zg{M:Model}{A:Pb}{E:OR→OS→Prop}{i:Nat}{x:Str}{v:V}{u:OR}{Q:Unit→OS→Prop}(I:aM X pins σ H s)(hN:X.N.Nodup)(hi:X.N[i]?=some x)(hx:zx X.env.scope x)(r:bL v u)
    (h:∀s',aM X pins (σ.set i (some v)) H s'→(∃a,RL a s.heap s'.heap∧(a=X.env.locals∨X.env.cells.lookup x=some a))→Q () s')(hf:X.fn x=true∨X.env.scope.names.lookup x=some .local:=by first | exact .inl rfl | exact .inr rfl | assumption):Pc M A (storeName X.env x u) Q E s:=by
  obtain⟨m,hn,hl⟩:=id I.loc
  have hcls:(X.env.scope.kind==.class || (X.env.scope.kind==.module&&X.env.locals != X.env.globals))=false:=by rw [I.ok.kind];rfl
  have hiσ:i < σ.length:=by rw [I.len];exact(OM hi).1
  have cne:=I.cne
  have tracked:∀{a:xM} {h':OY},(∃o,s.heap.get? a=some o∧H a=none)→RL a s.heap h'→oF X.prog X.w H h':=fun{a h'} ha hs b ob e=>by
    obtain⟨_,_,hfree⟩:=ha
    refine(I.hok b ob e).stay (fun c w' hc q=>(hs.2 c ?_).trans q) (fun _ q=>q) fun _ _ q=>q
    rintro rfl
    rcases hc with rfl | hc
    · rw [hfree] at e;cases e
    · rw [hfree] at hc;cases hc
  rcases hx with hk | hk
  · refine wpAny_storeName_local hk hn (fun h' hn' hs=>?_) hcls
    obtain⟨oL,_,_,hoL,_⟩:=id hn
    refine h _ ⟨I.ok,I.os,I.bare,⟨fun b o e n hb hx=>?_,fun b o e n hb hx=>?_,I.base.free,fun b o e hx=>?_,I.base.tups,I.base.frzs,I.base.tbls⟩,⟨_,hn',fun j y v' e1 e2 e3=>?_⟩,fun y c e=>?_,I.free,I.freeC,fun p hp=>?_,tracked ⟨oL,hoL,I.free⟩ hs,by simpa using I.len⟩ ⟨_,hs,.inl rfl⟩
    · exact(hs.2 b (Qn (Qa (Pr e) I.ok.above))).trans (I.base.keep b o e n hb hx)
    · obtain⟨sl,e1⟩:=I.base.slot b o e n hb hx
      exact⟨sl,(hs.2 b (Qn (Qa (Pr e) I.ok.above))).trans e1⟩
    · obtain⟨o',e1⟩:=I.base.there b o e hx
      exact⟨o',(hs.2 b (Qn (Qa (Pr e) I.ok.above))).trans e1⟩
    · by_cases hj:j=i
      · subst hj
        rw [hi] at e1;cases e1
        rw [Qb hiσ] at e2
        cases e2
        exact⟨u,r,.inl ⟨hk,by simp⟩⟩
      · rw [Pm (Pt hj)] at e2
        obtain⟨u',r',q⟩:=hl j y v' e1 e2 e3
        refine⟨u',r',?_⟩
        rcases q with ⟨k,e⟩ | ⟨k,c,e,z⟩
        · refine .inl ⟨k,?_⟩
          have:y≠x:=fun e=>hj (vd hN e1 (e ▸ hi))
          simp [this,e]
        · exact .inr ⟨k,c,e,z.sameBut hs (cne y c e)⟩
    · obtain⟨w',z⟩:=I.cell y c e
      exact⟨w',z.sameBut hs (cne y c e)⟩
    · obtain⟨e,n,ne,nf,d⟩:=I.pin p hp
      exact⟨(hs.2 p.1 ne).trans e,n,ne,nf,d⟩
  · have hfn:X.fn x=true:=by
      rcases hf with z | z
      · exact z
      · rw [z] at hk;cases hk
    obtain⟨c,hc⟩:=I.ok.has x (.inl hk)
    obtain⟨w',z⟩:=I.cell x c hc
    refine wpAny_storeName_cell I.ok.kind hk hc z (fun h' hc' hs=>?_)
    obtain⟨oc,hoc,hocd⟩:=id z
    refine h {s with heap:=h'} ⟨I.ok,I.os,I.bare,⟨fun b o e n hb hx=>?_,fun b o e n hb hx=>?_,I.base.free,fun b o e hx=>?_,I.base.tups,I.base.frzs,I.base.tbls⟩,⟨m,hn.sameBut hs (Pt (cne x c hc)),fun j y v' e1 e2 e3=>?_⟩,fun y c' e=>?_,I.free,I.freeC,fun p hp=>?_,tracked ⟨oc,hoc,I.freeC x c hc⟩ hs,by simpa using I.len⟩ ⟨c,hs,.inr hc⟩
    · exact(hs.2 b (Qn (Qa (Pr e) (I.ok.cab x c hfn hc)))).trans (I.base.keep b o e n hb hx)
    · obtain⟨sl,e1⟩:=I.base.slot b o e n hb hx
      exact⟨sl,(hs.2 b (Qn (Qa (Pr e) (I.ok.cab x c hfn hc)))).trans e1⟩
    · obtain⟨o',e1⟩:=I.base.there b o e hx
      exact⟨o',(hs.2 b (Qn (Qa (Pr e) (I.ok.cab x c hfn hc)))).trans e1⟩
    · by_cases hj:j=i
      · subst hj
        rw [hi] at e1;cases e1
        rw [Qb hiσ] at e2
        cases e2
        exact⟨u,r,.inr ⟨.inl hk,c,hc,hc'⟩⟩
      · rw [Pm (Pt hj)] at e2
        obtain⟨u',r',q⟩:=hl j y v' e1 e2 e3
        refine⟨u',r',?_⟩
        rcases q with q | ⟨k,c',e,z'⟩
        · exact .inl q
        · refine .inr ⟨k,c',e,z'.sameBut hs ?_⟩
          rintro rfl
          exact hj (vd hN e1 (I.ok.inj _ _ _ e hc ▸ hi))
    · by_cases hcc:c'=c
      · subst hcc;exact⟨_,hc'⟩
      · obtain⟨w2,z2⟩:=I.cell y c' e
        exact⟨w2,z2.sameBut hs hcc⟩
    · obtain⟨e,n,ne,nf,d⟩:=I.pin p hp
      refine⟨(hs.2 p.1 ?_).trans e,n,ne,nf,d⟩
      intro q
      rw [q,hoc] at e
      have q':oc=p.2:=Qq e
      exact d w' (by rw [←q'];exact hocd)
theorem mW{M:Model}{A:Pb}{E:OR→OS→Prop}{i:Nat}{x:Str}{v:V}{u:OR}{Q:Unit→OS→Prop}(I:aM X pins σ H s)(hN:X.N.Nodup)(hi:X.N[i]?=some x)(hx:zx X.env.scope x)(r:bL v u)
    (h:∀s',aM X pins (σ.set i (some v)) H s'→Q () s')(hf:X.fn x=true∨X.env.scope.names.lookup x=some .local:=by first | exact .inl rfl | exact .inr rfl | assumption):Pc M A (storeName X.env x u) Q E s:=
  zg I hN hi hx r (fun s' I' _=>h s' I') hf
theorem aM.call'{s':OS}{ch:List xM}(I:aM X pins σ H s)(ho:s'.os=s.os)(u:Un (z3 X.stack) ch H H' s.heap s'.heap)(hok:oF X.prog X.w H' s'.heap)(hg:AllBare s'.gens)
    (hch:∀b∈ch,(b∈X.ex∨X.s₀.heap.objs.size≤b)∧b≠X.env.locals∧(∀x c,X.env.cells.lookup x=some c→c≠b)∧∀p∈X.pn++pins,p.1≠b):aM X pins σ H' s':=by
  obtain⟨h',g',d',t',o'⟩:=s'
  have e:o'=s.os:=ho
  subst e
  exact I.call (g':=g') (t':=t') (d':=d') u hok hg hch
end
abbrev XK:=OR→Option xM→Hp→Prop
abbrev St:=List (Option V)
abbrev VK:=V→Hp→Prop
abbrev TE:=St→Hp→VK→Prop
abbrev TT:=St→Hp→(Bool→Hp→Prop)→Prop
abbrev TA:=St→Hp→(List V→Hp→Prop)→Prop
structure qR where
  nx:St→Hp→Prop
  rt:VK
  bk:St→Hp→Prop:=fun _ _=>False
  ct:St→Hp→Prop:=fun _ _=>False
abbrev TS:=qR→St→Hp→Prop
def EP(X:Cx)(pins:List (xM × Obj))(σ:St)(Q:VK)(u:OR)(s':OS):Prop:=∃v H',aM X pins σ H' s'∧bL v u∧Q v H'
def TP(X:Cx)(pins:List (xM × Obj))(σ:St)(Q:Bool→Hp→Prop)(b:Bool)(s':OS):Prop:=∃H',aM X pins σ H' s'∧Q b H'
def AP(X:Cx)(pins:List (xM × Obj))(σ:St)(Q:List V→Hp→Prop)(us:List OR)(s':OS):Prop:=∃vs H',aM X pins σ H' s'∧aV vs us∧Q vs H'
def SP(X:Cx)(pins:List (xM × Obj))(D:qR)(f:Flow)(s':OS):Prop:=
  match f with
  | .next=>∃σ' H',aM X pins σ' H' s'∧D.nx σ' H'
  | .brk=>∃σ' H',aM X pins σ' H' s'∧D.bk σ' H'
  | .cont=>∃σ' H',aM X pins σ' H' s'∧D.ct σ' H'
  | .ret u=>∃v σ' H',aM X pins σ' H' s'∧bL v u∧D.rt v H'
def PE(X:Cx)(e:OV)(t:TE):Prop:=
  ∀(pins:List (xM × Obj)) (s:OS) (σ:St) (H:Hp) (Q:VK),aM X pins σ H s→t σ H Q→Pc (Pe X.prog X.w) X.A (Pf e X.env) (EP X pins σ Q) X.xe s
def PT(X:Cx)(e:OV)(t:TT):Prop:=
  ∀(pins:List (xM × Obj)) (s:OS) (σ:St) (H:Hp) (Q:Bool→Hp→Prop),aM X pins σ H s→t σ H Q→Pc (Pe X.prog X.w) X.A (isTrue e X.env (Pf e X.env)) (TP X pins σ Q) X.xe s
def PW(X:Cx)(e:OV)(t:TT):Prop:=
  ∀(whole:Sem OR) (pins:List (xM × Obj)) (s:OS) (σ:St) (H:Hp) (Q:Bool→Hp→Prop),aM X pins σ H s→t σ H Q→Pc (Pe X.prog X.w) X.A (isTrue e X.env whole) (TP X pins σ Q) X.xe s
theorem PW.pt{X:Cx}{e:OV}{t:TT}(h:PW X e t):PT X e t:=h _
def PA(X:Cx)(es:List OV)(t:TA):Prop:=
  ∀(pos:Pos) (pins:List (xM × Obj)) (s:OS) (σ:St) (H:Hp) (Q:List V→Hp→Prop),aM X pins σ H s→t σ H Q→Pc (Pe X.prog X.w) X.A (spliced (Po pos (Pd es X.env))) (AP X pins σ Q) X.xe s
def PS(X:Cx)(st:Pa)(t:TS):Prop:=
  ∀(pins:List (xM × Obj)) (s:OS) (σ:St) (H:Hp) (D:qR),aM X pins σ H s→t D σ H→Pc (Pe X.prog X.w) X.A (exec st X.env) (SP X pins D) X.xe s
def jj(X:Cx)(st:List Pa)(t:TS):Prop:=
  ∀(pins:List (xM × Obj)) (s:OS) (σ:St) (H:Hp) (D:qR),aM X pins σ H s→t D σ H→Pc (Pe X.prog X.w) X.A (execs st X.env) (SP X pins D) X.xe s
theorem cR{α:Type}{t:Sem α}{Q Q':α→OS→Prop}{M:Model}{A:Pb}{E:OR→OS→Prop}{s:OS}(h:Pc M A t Q E s)(hQ:∀a s,Q a s→Q' a s):Pc M A t Q' E s:=Qv h hQ fun _ _ x=>x
section
variable{X:Cx}
def oQ(i:Nat):TE:=fun σ H Q=>∃v,σ[i]?=some (some v)∧Q v H
def tC(v:V):TE:=fun _ H Q=>Q v H
theorem aX{i:Nat}{x:Str}{pos:Pos}(hN:X.N[i]?=some x)(hv:HP X.env.scope x)(hd:(x==("__debug__":Str))=false:=by decide)(hcd:(x==("__classdict__":Str))=false:=by decide):PE X (.Name x pos) (oQ i):=by
  intro pins s σ H Q I h
  obtain⟨v,e,h⟩:=h
  obtain⟨m,hn,hl⟩:=I.loc
  obtain⟨u,r,l⟩:=hl i x v hN e hv
  have fin:EP X pins σ Q u s:=⟨v,H,I,r,h⟩
  rcases l with ⟨hk,hm⟩ | ⟨hk,c,hc,hcell⟩
  · exact wpAny_Name (wpAny_loadName_local I.ok.kind hk hn hm fin) hd
  · rcases hk with hk | hk
    · exact wpAny_Name (wpAny_loadName_cell I.ok.kind hk hc hcell fin) hd
    · exact wpAny_Name (wpAny_loadName_free I.ok.kind hk hc hcell fin hcd) hd
theorem GT{i j pos}:PE X (.Constant (.int i) j pos) (tC (.int i)):=fun _ _ _ H _ I h=>wpAny_Constant_int ⟨.int i,H,I.tok _,⟨_,rfl⟩,h⟩
theorem IY{b j pos}:PE X (.Constant (.bool b) j pos) (tC (.bl b)):=fun _ _ _ H _ I h=>Constant_bool ⟨.bl b,H,I,rfl,h⟩
theorem GU{j pos}:PE X (.Constant .none j pos) (tC .non):=fun _ _ _ H _ I h=>Constant_none ⟨.non,H,I,rfl,h⟩
theorem w_{x j pos}:PE X (.Constant (.str x) j pos) (tC (.str x)):=fun _ _ _ H _ I h=>Calls.Constant_str ⟨.str x,H,I.tok _,⟨_,rfl⟩,h⟩
def Gl(X:Cx)(x:Str):Prop:=X.env.kindOf x=some .globalImplicit
theorem mv{E:OR→OS→Prop}{pins:List (xM × Obj)}{s:OS}{σ:St}{H:Hp}{x:Str}{u:OR}{pos:Pos}{Q:OR→OS→Prop}(I:aM X pins σ H s)(hg:Gl X x)(hm:X.mg x=some u)(h:Q u s)
    (hd:(x==("__debug__":Str))=false:=by decide):Pc (Pe X.prog X.w) X.A (Pf (.Name x pos) X.env) Q E s:=
  Calls.Name_function_global I.ok.kind hg (Calls.loadGlobal_global (by rw [I.ok.glob];exact I.mod.glob.keeps I.bk) hm h) hd
theorem tP{E:OR→OS→Prop}{pins:List (xM × Obj)}{s:OS}{σ:St}{H:Hp}{x:Str}{u:OR}{pos:Pos}{Q:OR→OS→Prop}(I:aM X pins σ H s)(hg:Gl X x)(hm:X.mg x=none)(hv:QK x=some u)(h:Q u s)
    (hn:x≠"__name__":=by decide)(hd:(x==("__debug__":Str))=false:=by decide):Pc (Pe X.prog X.w) X.A (Pf (.Name x pos) X.env) Q E s:=by
  obtain⟨mb,h1,h2⟩:=I.mod.blt
  exact Calls.Name_function_global I.ok.kind hg (Calls.loadGlobal_builtin (by rw [I.ok.glob];exact I.mod.glob.keeps I.bk) hm (by rw [I.ok.blt];exact h1.keeps I.bk) ((h2 x hn).trans hv) h) hd
theorem Dy{x:Str}{v:V}{u:OR}{pos:Pos}(hg:Gl X x)(hm:X.mg x=some u)(r:bL v u)(hd:(x==("__debug__":Str))=false:=by decide):PE X (.Name x pos) (tC v):=
  fun _ _ _ H _ I h=>mv I hg hm ⟨v,H,I,r,h⟩ hd
variable{a b:OV}{ta tb:TE}{pos:Pos}
def PC(X:Cx)(op:CmpOp)(a b:OV)(t:TE):Prop:=
  ∀(pins:List (xM × Obj)) (s:OS) (σ:St) (H:Hp) (Q:VK),aM X pins σ H s→t σ H Q→
    Pc (Pe X.prog X.w) X.A (Pf a X.env) (fun v s₁=>Pc (Pe X.prog X.w) X.A (Pf b X.env) (fun u s₂=>Pc (Pe X.prog X.w) X.A (PZ op v u) (EP X pins σ Q) X.xe s₂) X.xe s₁) X.xe s
theorem AJ(b:OV){op:CmpOp}(h:op≠.In)(h2:op≠.NotIn):QC op b=false:=by
  have e1:(op==CmpOp.In)=false:=by cases op<;>first | rfl | exact absurd rfl h
  have e2:(op==CmpOp.NotIn)=false:=by cases op<;>first | rfl | exact absurd rfl h2
  cases b<;>simp [QC,e1,e2]
def tB(t:TE):TT:=fun σ H Q=>t σ H fun x H1=>∃c,x=.bl c∧Q c H1
theorem G0{op:CmpOp}{t:TE}(h:PC X op a b t)(h1:QC op b=false:=by first | exact AJ _ (by decide) (by decide) | rfl):PT X (.Compare a [op] [b] pos) (tB t):=by
  intro pins s σ H Q I hw
  refine wpAny_isTrue_Compare1 (cR (h pins s σ H _ I hw) fun v s1 h1=>cR h1 fun u s2 h2=>cR h2 fun c s3 ⟨x,H1,I1,r1,q1⟩=>?_) h1
  obtain⟨d,rfl,q⟩:=q1
  cases r1
  exact RU ⟨H1,I1,q⟩
theorem Bc{e:OV}{t:TE}(h:PE X e t)(he:∀whole,isTrue e X.env whole=(do let v ←whole;standAt e.pos;holding [v] (truthy v)):=by intro _;rfl):PT X e (tB t):=by
  intro pins s σ H Q I hw
  refine isTrue_plain (cR (h pins s σ H _ I hw) fun v s1 ⟨x,H1,I1,r1,q1⟩=>?_) (he _)
  obtain⟨d,rfl,q⟩:=q1
  cases r1
  exact RU ⟨H1,I1,q⟩
variable{tA tB':TT}{cA:List OV}
def JA(t u:TT):TT:=fun σ H Q=>t σ H fun c H1=>if c=true then u σ H1 Q else Q false H1
def K0(t u:TT):TT:=fun σ H Q=>t σ H fun c H1=>if c=true then Q true H1 else u σ H1 Q
def JI(t:TT):TT:=fun σ H Q=>t σ H fun c H1=>Q (!c) H1
theorem DL(ha:PT X a tA):PW X (.BoolOp .And [a] pos) tA:=by
  intro wh pins s σ H Q I h
  refine isTrue_and (cR (ha pins s σ H Q I h) fun c s1 e=>?_)
  cases c with
  | true=>exact isTrue_and_nil e
  | false=>exact e
theorem Bd(ha:PT X a tA):PW X (.BoolOp .Or [a] pos) tA:=by
  intro wh pins s σ H Q I h
  refine isTrue_or (cR (ha pins s σ H Q I h) fun c s1 e=>?_)
  cases c with
  | false=>exact isTrue_or_nil e
  | true=>exact e
theorem G2(ha:PT X a tA)(hb:PW X (.BoolOp .And (b::cA) pos) tB'):PW X (.BoolOp .And (a::b::cA) pos) (JA tA tB'):=by
  intro wh pins s σ H Q I h
  refine isTrue_and (cR (ha pins s σ H _ I h) fun c s1 ⟨H1,I1,q1⟩=>?_)
  cases c with
  | true=>exact hb wh pins s1 σ H1 Q I1 q1
  | false=>exact⟨H1,I1,q1⟩
theorem EK(ha:PT X a tA)(hb:PW X (.BoolOp .Or (b::cA) pos) tB'):PW X (.BoolOp .Or (a::b::cA) pos) (K0 tA tB'):=by
  intro wh pins s σ H Q I h
  refine isTrue_or (cR (ha pins s σ H _ I h) fun c s1 ⟨H1,I1,q1⟩=>?_)
  cases c with
  | true=>exact⟨H1,I1,q1⟩
  | false=>exact hb wh pins s1 σ H1 Q I1 q1
theorem Bb(ha:PT X a tA):PT X (.UnaryOp .Not a pos) (JI tA):=by
  intro pins s σ H Q I h
  exact isTrue_not (ha pins s σ H (fun c H1=>Q (!c) H1) I h)
def JB(ta tb:TE):TE:=fun σ H Q=>ta σ H fun x H1=>∃c,x=.bl c∧if c=true then tb σ H1 Q else Q (.bl false) H1
theorem GV{op}{t:TE}(h:PE X a t):PE X (.BoolOp op [a] pos) t:=fun pins s σ H Q I hw=>BoolOp_one (h pins s σ H Q I hw)
theorem GR(ha:PE X a ta)(hb:PE X (.BoolOp .And (b::cA) pos) tb):PE X (.BoolOp .And (a::b::cA) pos) (JB ta tb):=by
  intro pins s σ H Q I h
  refine BoolOp_and (cR (ha pins s σ H _ I h) fun v s1 ⟨x,H1,I1,r1,q1⟩=>?_)
  obtain⟨c,rfl,q1⟩:=q1
  cases r1
  refine RU ?_
  cases c with
  | true=>exact hb pins s1 σ H1 Q I1 q1
  | false=>exact⟨.bl false,H1,I1,rfl,q1⟩
def LX(t:TT)(ta tb:TE):TE:=fun σ H Q=>t σ H fun c H1=>if c=true then ta σ H1 Q else tb σ H1 Q
theorem vo{c:OV}(hc:PT X c tA)(ha:PE X a ta)(hb:PE X b tb):PE X (.IfExp c a b pos) (LX tA ta tb):=by
  intro pins s σ H Q I h
  refine wpAny_IfExp (cR (hc pins s σ H _ I h) fun d s1 ⟨H1,I1,q1⟩=>?_)
  cases d with
  | true=>exact ha pins s1 σ H1 Q I1 q1
  | false=>exact hb pins s1 σ H1 Q I1 q1
end
def iN(K:OU)(H:Hp)(a:xM)(xs:List V):Prop:=
  Rd H a (.lst xs)∨
    ∃(o:Obj) (its:Array OR) (n:Nat),K.lookup a=some o∧o.cls=.type "list"∧o.dict=none∧o.data=.seq its n∧its.size≤Pk∧aV xs its.toList
def eV(K:OU)(H:Hp)(a:xM)(xs:List V):Prop:=
  Rd H a (.tup xs)∨
    ∃(o:Obj) (its:Array OR) (n:Nat),K.lookup a=some o∧o.cls=.type "tuple"∧o.dict=none∧o.data=.seq its n∧its.size≤Pk∧aV xs its.toList
def Ks:OR→Option V
  | .none=>some .non
  | .bool b=>some (.bl b)
  | .int i _=>some (.int i)
  | .str x _=>some (.str x)
  | .bytes b _=>some (.byt b)
  | .float b _=>some (.flt b)
  | .ref a=>some (.ref a)
  | .type n=>some (.ty n)
  | _=>none
theorem bL.abs{x:V}{u:OR}(r:bL x u):Ks u=some x:=by
  cases x with
  | non=>cases r;rfl
  | bl _=>cases r;rfl
  | int _=>obtain⟨t,rfl⟩:=r;rfl
  | str _=>obtain⟨t,rfl⟩:=r;rfl
  | byt _=>obtain⟨t,rfl⟩:=r;rfl
  | flt _=>obtain⟨t,rfl⟩:=r;rfl
  | ref _=>cases r;rfl
  | ty _=>cases r;rfl
theorem bL.inj{x y:V}{u:OR}(r:bL x u)(q:bL y u):x=y:=Qq (r.abs.symm.trans q.abs)
theorem aV.inj:∀{xs ys:List V} {us:List OR},aV xs us→aV ys us→xs=ys
  | _,_,_,.nil,.nil=>rfl
  | _,_,_,.cons r t,.cons r' t'=>by rw [r.inj r',aV.inj t t']
section
variable{X:Cx}{pins:List (xM × Obj)}{σ:St}{H:Hp}{s:OS}{a:xM}{xs ys:List V}
theorem iN.of{K:OU}(h:H a=some (.lst xs)):iN K H a xs:=.inl (.inl h)
theorem eV.of{K:OU}(h:H a=some (.tup xs)):eV K H a xs:=.inl (.inl h)
theorem aM.list(I:aM X pins σ H s)(h:iN X.K H a xs):∃its:List OR,aV xs its∧PlainL s.heap a its.toArray∧xs.length≤Pk:=by
  rcases h with h | ⟨o,its,n,hk,hc,hd,hs,hz,r⟩
  · obtain⟨z,its,n,r,e⟩:=h.ok I.hok
    exact⟨its,r,⟨_,n,e,rfl,rfl,rfl⟩,z⟩
  · refine⟨its.toList,r,⟨o,n,I.kIn a o hk,hc,hd,by simpa using hs⟩,?_⟩
    have e:=r.length
    simp only [SZ] at e
    lia
theorem aM.tuple(I:aM X pins σ H s)(h:eV X.K H a xs):∃its:List OR,aV xs its∧IsTup s.heap a its.toArray∧xs.length≤Pk:=by
  rcases h with h | ⟨o,its,n,hk,hc,_,hs,hz,r⟩
  · obtain⟨z,its,r,p⟩:=h.ok I.hok
    exact⟨its,r,p.tup,z⟩
  · refine⟨its.toList,r,⟨o,I.kIn a o hk,hc,n,by simpa using hs⟩,?_⟩
    have e:=r.length
    simp only [SZ] at e
    lia
theorem aM.list_inj(I:aM X pins σ H s)(h:iN X.K H a xs)(h':iN X.K H a ys):xs=ys:=by
  obtain⟨its,r,⟨o,n,e,_,_,d⟩,_⟩:=I.list h
  obtain⟨its',r',⟨o',n',e',_,_,d'⟩,_⟩:=I.list h'
  rw [e] at e';cases e'
  rw [d] at d'
  injection d' with d1 _
  have:its=its':=by simpa using congrArg Array.toList d1
  subst this
  exact r.inj r'
theorem aM.tuple_inj(I:aM X pins σ H s)(h:eV X.K H a xs)(h':eV X.K H a ys):xs=ys:=by
  obtain⟨its,r,⟨o,e,_,n,d⟩,_⟩:=I.tuple h
  obtain⟨its',r',⟨o',e',_,n',d'⟩,_⟩:=I.tuple h'
  rw [e] at e';cases e'
  rw [d] at d'
  injection d' with d1 _
  have:its=its':=by simpa using congrArg Array.toList d1
  subst this
  exact r.inj r'
end
abbrev Cx.wish(X:Cx)(E:OR→OS→Prop):Cx:={X with xe:=E}
abbrev Cx.nox(X:Cx):Cx:=X.wish fun _ _=>False
theorem Cx.Ok.wish{X:Cx}(ok:X.Ok)(E:OR→OS→Prop):(X.wish E).Ok:=
  ⟨ok.mod,ok.kind,ok.glob,ok.blt,ok.above,ok.inj,ok.has,ok.cab,ok.hd,ok.frames,ok.stk,ok.exf,ok.bs,ok.bsz,ok.noex,ok.exfs,ok.funs,ok.frf⟩
theorem Cx.Ok.unwish{X:Cx}{E:OR→OS→Prop}(ok:(X.wish E).Ok):X.Ok:=
  ⟨ok.mod,ok.kind,ok.glob,ok.blt,ok.above,ok.inj,ok.has,ok.cab,ok.hd,ok.frames,ok.stk,ok.exf,ok.bs,ok.bsz,ok.noex,ok.exfs,ok.funs,ok.frf⟩
section
variable{X:Cx}{pins:List (xM × Obj)}{σ:St}{H:Hp}{s:OS}{E:OR→OS→Prop}
theorem aM.wish(I:aM X pins σ H s)(E:OR→OS→Prop):aM (X.wish E) pins σ H s:=⟨I.ok.wish E,I.os,I.bare,I.base,I.loc,I.cell,I.free,I.freeC,I.pin,I.hok,I.len⟩
theorem aM.unwish(I:aM (X.wish E) pins σ H s):aM X pins σ H s:=⟨I.ok.unwish,I.os,I.bare,I.base,I.loc,I.cell,I.free,I.freeC,I.pin,I.hok,I.len⟩
theorem SP.unwish{D:qR}{f:Flow}{s':OS}(h:SP (X.wish E) pins D f s'):SP X pins D f s':=by
  cases f with
  | next=>obtain⟨σ',H',I,q⟩:=h;exact⟨σ',H',I.unwish,q⟩
  | brk=>obtain⟨σ',H',I,q⟩:=h;exact⟨σ',H',I.unwish,q⟩
  | cont=>obtain⟨σ',H',I,q⟩:=h;exact⟨σ',H',I.unwish,q⟩
  | ret u=>obtain⟨v,σ',H',I,r,q⟩:=h;exact⟨v,σ',H',I.unwish,r,q⟩
theorem jj.nox{st:List Pa}{t:TS}(h:jj X.nox st t):jj X st t:=fun pins s σ H D I hw=>
  Qv (h pins s σ H D (I.wish _) hw) (fun _ _ q=>q.unwish) fun _ _ z=>Qw z
end
section
variable{X:Cx}{st:Pa}{cA:List Pa}{t u:TS}{e:OV}{te:TE}{pos:Pos}
def JH:TS:=fun D σ H=>D.nx σ H
def K4(t u:TS):TS:=fun D σ H=>t {D with nx:=u D} σ H
theorem x8:jj X [] JH:=fun _ _ σ H _ I h=>Sn ⟨σ,H,I,h⟩
theorem kc(h1:PS X st t)(h2:jj X cA u):jj X (st::cA) (K4 t u):=by
  intro pins s σ H D I h
  refine wpAny_execs_cons (cR (h1 pins s σ H {D with nx:=u D} I h) fun f s1 q=>?_)
  cases f with
  | next=>
    obtain⟨σ',H',I',q⟩:=q
    exact h2 pins s1 σ' H' D I' q
  | ret v=>exact q
  | brk=>exact q
  | cont=>exact q
theorem o5(h1:PS X st t):jj X [st] t:=by
  intro pins s σ H D I h
  refine wpAny_execs_cons (cR (h1 pins s σ H D I h) fun f s1 q=>?_)
  cases f with
  | next=>exact Sn q
  | ret v=>exact q
  | brk=>exact q
  | cont=>exact q
def JD:TS:=fun D σ H=>D.ct σ H
theorem vq:PS X (.Continue pos) JD:=fun _ _ σ H _ I h=>wpAny_Continue ⟨σ,H,I,h⟩
theorem aM.quiet{pins:List (xM × Obj)}{σ:St}{H:Hp}{s:OS}(I:aM X pins σ H s):interactive X.env=false:=by simp [interactive,I.ok.kind]
def JE(te:TE):TS:=fun D σ H=>te σ H fun _ H1=>D.nx σ H1
theorem x6(he:PE X e te)(hs:QO e none pos.line X.env=pure false:=by rfl):PS X (.Expr e pos) (JE te):=by
  intro pins s σ H D I h
  exact wpAny_Expr_any (cR (he pins s σ H _ I h) fun v s1 ⟨x,H1,I1,r1,q1⟩=>⟨σ,H1,I1,q1⟩) I.quiet hs
def K3(te:TE):TS:=fun D σ H=>te σ H D.rt
theorem t5(he:PE X e te):PS X (.Return (some e) pos) (K3 te):=by
  intro pins s σ H D I h
  exact wpAny_Return_some (cR (he pins s σ H _ I h) fun v s1 ⟨x,H1,I1,r1,q1⟩=>⟨x,σ,H1,I1,r1,q1⟩)
def KY(c:TT)(t u:TS):TS:=fun D σ H=>c σ H fun b H1=>if b=true then t D σ H1 else u D σ H1
theorem EJ{c:OV}{a b:List Pa}{tc:TT}(hc:PT X c tc)(ha:jj X a t)(hb:jj X b u):PS X (.If c a b pos) (KY tc t u):=by
  intro pins s σ H D I h
  refine wpAny_If (cR (hc pins s σ H _ I h) fun d s1 ⟨H1,I1,q1⟩=>?_)
  cases d with
  | true=>exact ha pins s1 σ H1 D I1 q1
  | false=>exact hb pins s1 σ H1 D I1 q1
end
abbrev TG:=V→St→Hp→(St→Hp→Prop)→Prop
abbrev Cd:=List V→St→Hp→(St→Hp→Prop)→Prop
def PG(X:Cx)(target:OV)(t:TG):Prop:=
  ∀(pins:List (xM × Obj)) (s:OS) (σ:St) (H:Hp) (v:V) (u:OR) (Q:St→Hp→Prop),aM X pins σ H s→bL v u→t v σ H Q→
    Pc (Pe X.prog X.w) X.A (assign target X.env u) (fun _ s'=>∃σ' H',aM X pins σ' H' s'∧Q σ' H') X.xe s
def zy(X:Cx)(ts:List OV)(t:Cd):Prop:=
  ∀(pins:List (xM × Obj)) (s:OS) (σ:St) (H:Hp) (vs:List V) (us:List OR) (Q:St→Hp→Prop),aM X pins σ H s→aV vs us→t vs σ H Q→
    Pc (Pe X.prog X.w) X.A (assignInOrder ((PQ ts X.env).map (·.2)) us) (fun _ s'=>∃σ' H',aM X pins σ' H' s'∧Q σ' H') X.xe s
section
variable{X:Cx}{pos:Pos}
def EB(i:Nat):TG:=fun v σ H Q=>Q (σ.set i (some v)) H
theorem tZ{i:Nat}{x:Str}(hN:X.N.Nodup)(hi:X.N[i]?=some x)(hx:zx X.env.scope x)(hf:X.fn x=true∨X.env.scope.names.lookup x=some .local:=by first | exact .inl rfl | exact .inr rfl | assumption):PG X (.Name x pos) (EB i):=by
  intro pins s σ H v u Q I r h
  exact wpAny_assign_Name (mW I hN hi hx r (fun s' I'=>⟨_,H,I',h⟩) hf)
def Kw:Cd:=fun vs σ H Q=>vs=[]∧Q σ H
def Ic(t:TG)(u:Cd):Cd:=fun vs σ H Q=>∃v r,vs=v::r∧t v σ H fun σ' H'=>u r σ' H' Q
theorem x5:zy X [] Kw:=by
  intro pins s σ H vs us Q I r h
  obtain⟨e,h⟩:=h
  subst e
  cases r
  exact assignInOrder_nil ⟨σ,H,I,h⟩
theorem qg{e:OV}{es:List OV}{t:TG}{u:Cd}(h1:PG X e t)(h2:zy X es u)
    (hs:(PQ (e::es) X.env).map (·.2)=assign e X.env::(PQ es X.env).map (·.2):=by rfl):zy X (e::es) (Ic t u):=by
  intro pins s σ H vs us Q I r h
  obtain⟨v,vr,e1,h⟩:=h
  subst e1
  cases r with
  | cons r rr=>
    rw [hs]
    refine assignInOrder_cons (cR (h1 pins s σ H _ _ _ I r h) fun _ s1 ⟨σ1,H1,I1,q1⟩=>?_)
    exact h2 pins s1 σ1 H1 _ _ Q I1 rr q1
def Ih(K:OU)(n:Nat)(t:Cd):TG:=fun v σ H Q=>∃a xs,v=.ref a∧eV K H a xs∧xs.length=n∧t xs σ H Q
theorem GW{es:List OV}{k:Nat}{t:Cd}{n:Nat}(hc:X.calm=true)(h:zy X es t)
    (hn:(PQ es X.env).length=n:=by rfl)(hst:(PQ es X.env).findIdx? (·.1)=none:=by rfl):PG X (.Tuple es k pos) (Ih X.K n t):=by
  intro pins s σ H v u Q I r hw
  obtain⟨a,xs,e1,hq,hl,hw⟩:=hw
  subst e1
  cases r
  obtain⟨its,rv,ht,hz⟩:=I.tuple hq
  refine assign_Tuple_tuple (I.ok.hd hc) ht (by simp [hn,←hl,rv.length]) hst fun h' hx=>?_
  have I1:aM X pins σ H {s with heap:=h'}:=I.kept (t':=s.toks) fun b o e=>hx b o (Qn (Pr e)) e
  exact h pins _ σ H xs _ Q I1 (by simpa using rv) hw
def JC(te:TE)(g:TG):TS:=fun D σ H=>te σ H fun x H1=>g x σ H1 D.nx
theorem A9{tg e:OV}{te:TE}{g:TG}(he:PE X e te)(hg:PG X tg g)(hs:RV [tg] e pos.line X.env=pure false:=by rfl)(hw:RW [tg] e X.env=pure none:=by rfl)
    (h1:(PQ [tg] X.env).map (·.2)=[assign tg X.env]:=by rfl):PS X (.Assign [tg] e pos) (JC te g):=by
  intro pins s σ H D I h
  refine wpAny_Assign_stores (cR (he pins s σ H _ I h) fun v s1 ⟨x,H1,I1,r1,q1⟩=>?_) hs hw
  rw [h1]
  exact cR (hg pins s1 σ H1 x v _ I1 r1 q1) fun _ s2 q=>q
theorem qi{i:Nat}{x:Str}{e:OV}{te:TE}{pos':Pos}(hN:X.N.Nodup)(hi:X.N[i]?=some x)(hx:zx X.env.scope x)(he:PE X e te)(hs:QO e (some (.Name x pos')) pos.line X.env=pure false:=by rfl)(hf:X.fn x=true∨X.env.scope.names.lookup x=some .local:=by first | exact .inl rfl | exact .inr rfl | assumption):
    PS X (.Assign [.Name x pos'] e pos) (JC te (EB i)):=by
  intro pins s σ H D I h
  refine wpAny_Assign_Name (cR (he pins s σ H _ I h) fun v s1 ⟨y,H1,I1,r1,q1⟩=>?_) hs
  exact mW I1 hN hi hx r1 (fun s2 I2=>⟨_,H1,I2,q1⟩) hf
def K2(i j:Nat)(ta:TA):TS:=fun D σ H=>ta σ H fun vs H1=>∃v w,vs=[v,w]∧D.nx ((σ.set i (some v)).set j (some w)) H1
theorem GZ{i j:Nat}{x y:Str}{a b:OV}{ta:TA}{px py pt:Pos}{kt k2 pt2}(hc:X.calm=true)(hN:X.N.Nodup)(hi:X.N[i]?=some x)(hj:X.N[j]?=some y)(hij:i≠j)
    (hx:X.env.scope.names.lookup x=some .local)(hy:X.env.scope.names.lookup y=some .local)(ha:PA X [a,b] ta)
    (hw:RW [.Tuple [.Name x px,.Name y py] kt pt] (.Tuple [a,b] k2 pt2) X.env=pure (some [x,y]))
    (hs:RV [.Tuple [.Name x px,.Name y py] kt pt] (.Tuple [a,b] k2 pt2) pos.line X.env=pure false:=by rfl):
    PS X (.Assign [.Tuple [.Name x px,.Name y py] kt pt] (.Tuple [a,b] k2 pt2) pos) (K2 i j ta):=by
  intro pins s σ H D I h
  rw [exec_Assign_arm]
  refine Ph (wpAny_standAt ?_)
  rw [hs]
  refine Ph (Pl ?_)
  rw [if_neg (by decide)]
  refine Ph (Tuple_ (cR (ha _ pins s σ H _ I h) fun us s1 ⟨vs,H1,I1,r1,q1⟩=>?_))
  obtain⟨v,w,e1,q1⟩:=q1
  subst e1
  obtain⟨u1,u2,rfl,rv,rw'⟩:∃u1 u2,us=[u1,u2]∧bL v u1∧bL w u2:=by
    cases r1 with
    | cons p q=>
      cases q with
      | cons p' q'=>
        cases q'
        exact⟨_,_,rfl,p,p'⟩
  refine Rx ?_ (by show 2≤Pk;decide)
  have I2:aM X pins σ H1 {s1 with heap:=s1.heap.push {cls:=.type "tuple",data:=.seq [u1,u2].toArray}}:=I1.kept (t':=s1.toks) fun b o e=>PL _ e
  rw [hw]
  refine Ph (Pl ?_)
  show Pc (Pe X.prog X.w) X.A (do rule "assign.swapped-stores";let items ←unpackItems (.ref s1.heap.objs.size) 2 none;assignInOrder [fun v=>bindName X.env y v,fun v=>bindName X.env x v] items.reverse;pure Flow.next) _ _ _
  refine Ph (wpAny_rule (Ph (unpackItems_tuple (items:=#[u1,u2]) (I.ok.hd hc) (IsTup.new s1.heap _) fun h' hx'=>?_)))
  have I3:=I2.kept (h':=h') (t':=s1.toks) fun b o e=>hx' b o (Qn (Pr e)) e
  show Pc _ _ (assignInOrder [fun v=>bindName X.env y v,fun v=>bindName X.env x v] [u2,u1] >>= fun _=>pure Flow.next) _ _ _
  refine Ph (assignInOrder_cons (wpAny_bindName (mW I3 hN hj (.inl hy) rw' (fun s2 I4=>?_) (.inr hy))))
  refine assignInOrder_cons (wpAny_bindName (mW I4 hN hi (.inl hx) rv (fun s3 I5=>assignInOrder_nil (Pl ?_)) (.inr hx)))
  rw [List.set_comm _ _ (Pt hij)] at I5
  exact⟨_,H1,I5,q1⟩
end
section
variable{X:Cx}{pos:Pos}
def Hu(c:TT)(tb:TS):TS:=fun D σ H=>∃W:Nat→St→Hp→Prop,(∃m,W m σ H)∧∀m σ H,W m σ H→
  c σ H fun b H1=>if b=true then ∃N:St→Hp→Prop,(∀σ' H',N σ' H'→∃m',m' < m∧W m' σ' H')∧tb {D with nx:=N,ct:=N,bk:=D.nx} σ H1 else D.nx σ H1
theorem Ba{c:OV}{body:List Pa}{tc:TT}{tb:TS}(hp:PassesOwn (Pe X.prog X.w) X.A X.env X.xe)(hc:PT X c tc)(hb:jj X body tb):PS X (.While c body [] pos) (Hu tc tb):=by
  intro pins s σ H D I h
  obtain⟨W,⟨m0,w0⟩,turn⟩:=h
  refine wpAny_While (codeAny_whileLoop (fun n s'=>∃σ' H',aM X pins σ' H' s'∧W n σ' H') ?_ m0 ⟨σ,H,I,w0⟩)
  rintro n s1 ⟨σ1,H1,I1,w1⟩
  refine Ry hp (cR (hc pins s1 σ1 H1 _ I1 (turn n σ1 H1 w1)) fun b s2 ⟨H2,I2,q2⟩=>?_)
  cases b with
  | true=>
    obtain⟨N,hN,q2⟩:=q2
    rw [if_pos rfl]
    refine Ry hp (cR (hb pins s2 σ1 H2 _ I2 q2) fun f s3 q3=>?_)
    cases f with
    | next=>
      obtain⟨σ3,H3,I3,n3⟩:=q3
      obtain⟨m',hm,w3⟩:=hN σ3 H3 n3
      exact⟨m',hm,σ3,H3,I3,w3⟩
    | cont=>
      obtain⟨σ3,H3,I3,n3⟩:=q3
      obtain⟨m',hm,w3⟩:=hN σ3 H3 n3
      exact⟨m',hm,σ3,H3,I3,w3⟩
    | brk=>exact q3
    | ret v=>exact q3
  | false=>
    rw [if_neg Rz]
    exact Sn ⟨σ1,H2,I2,q2⟩
end
structure It where
  go:Nat→Hp→Prop
  yld:Nat→Hp→V→Hp→Prop
  stop:Nat→Hp→Prop
def pk(X:Cx)(pins:List (xM × Obj))(H:Hp)(b:xM):Prop:=
  H b=none∧b≠X.env.locals∧b∉X.fs∧(b∈X.ex∨X.s₀.heap.objs.size≤b)∧(∀x c,X.env.cells.lookup x=some c→c≠b)∧∀p∈X.pn++pins,p.1≠b
theorem aM.fpOk{X:Cx}{pins:List (xM × Obj)}{σ:St}{H H':Hp}{s:OS}{b:xM}(I:aM X pins σ H s)(hb:s.heap.objs.size≤b)(hn:H' b=none):pk X pins H' b:=by
  refine⟨hn,Nat.ne_of_gt (Qa I.lt hb),I.nofs hb,.inr (PK I.sz hb),fun x c e z=>?_,fun p hp z=>?_⟩
  · obtain⟨v,q⟩:=I.cell x c e
    exact absurd (Qa q.lt (by rw [z];exact hb)) (Re _)
  · exact absurd (Qa (Pr (I.pin p hp).1) (by rw [z];exact hb)) (Re _)
structure Cr (P:OZ) (w:OW) (K:OU) (tg:OV) (J:It) (fp:List xM) (it:xM) (tn:Nat→OY→Prop):Prop where
  mem:it∈fp
  obj:∀i h,tn i h→∀b∈fp,∃o,h.get? b=some o∧∀v,o.data≠.cell v
  keep:∀i h h',tn i h→(∀b∈fp,∀o,h.get? b=some o→h'.get? b=some o)→tn i h'
  item:∀(X:Cx),X.prog=P→X.w=w→X.K=K→X.calm=true→∀(i:Nat) (pins:List (xM × Obj)) (s:OS) (σ:St) (H:Hp) (E:OR→OS→Prop),aM X pins σ H s→(∀b∈fp,pk X pins H b)→tn i s.heap→J.go i H→
    Pc (Pe P w) X.A (pyNext (.ref it)) (fun r s1=>∃u,r=some u∧
      Pc (Pe P w) X.A (So tg (.ref it) u) (fun _ s2=>∃x H',aM X pins σ H' s2∧bL x u∧J.yld i H x H'∧tn (i+1) s2.heap∧∀b∈fp,H' b=none) E s1) E s
  done:∀(X:Cx),X.prog=P→X.w=w→X.K=K→X.calm=true→∀(i:Nat) (pins:List (xM × Obj)) (s:OS) (σ:St) (H:Hp) (E:OR→OS→Prop),aM X pins σ H s→(∀b∈fp,pk X pins H b)→tn i s.heap→J.stop i H→
    Pc (Pe P w) X.A (pyNext (.ref it)) (fun r s1=>r=none∧aM X pins σ H s1) E s
  self:∀(A:Pb) (i:Nat) (s:OS) (Q:OR→OS→Prop) (E:OR→OS→Prop),tn i s.heap→Q (.ref it) s→Pc (Pe P w) A (pyIter (.ref it)) Q E s
abbrev TI:=St→Hp→(It→Hp→Prop)→Prop
def La(X:Cx)(pins:List (xM × Obj))(σ:St)(tg:OV)(R:It→Hp→Prop)(itv:OR)(s2:OS):Prop:=
  ∃(it:xM) (fp:List xM) (tn:Nat→OY→Prop) (J:It) (H':Hp),itv=.ref it∧aM X pins σ H' s2∧Cr X.prog X.w X.K tg J fp it tn∧tn 0 s2.heap∧(∀b∈fp,pk X pins H' b)∧R J H'
def PI(X:Cx)(tg iter:OV)(wi:TI):Prop:=
  ∀(pins:List (xM × Obj)) (s:OS) (σ:St) (H:Hp) (R:It→Hp→Prop),aM X pins σ H s→wi σ H R→
    Pc (Pe X.prog X.w) X.A (Pf iter X.env) (fun v s1=>Pc (Pe X.prog X.w) X.A (pyIter v) (La X pins σ tg R) X.xe s1) X.xe s
theorem Ag{M:Model}{A:Pb}{E:OR→OS→Prop}{s:OS}{tg:OV}{it:xM}{u:OR}{o:Obj}{n:String}{vs:Array OR}{Q:Unit→OS→Prop}(ho:s.heap.get? it=some o)(hc:o.cls=.type n)(hd:o.data=.fields vs)
    (hn:["enumerate","zip","dict_itemiterator","dict_reverseitemiterator","odict_iterator","itertools.zip_longest","itertools.pairwise"].contains n=false)(hQ:Q () s):Pc M A (So tg (.ref it) u) Q E s:=by
  unfold So
  cases tg<;>first
    | exact Pl hQ
    | (cases u<;>first
        | exact Pl hQ
        | (refine Ph (wpAny_load ho ?_)
           rw [hc,hd]
           show Pc M A (if (["enumerate","zip","dict_itemiterator","dict_reverseitemiterator","odict_iterator","itertools.zip_longest","itertools.pairwise"].contains n&&vs[0]?==some (rawInt _))=true then _ else _) Q E s
           rw [if_neg (by intro h;rw [hn,Bool.false_and] at h;cases h)]
           exact Pl hQ))
def Kb(K:OU)(a:xM):It:=
  ⟨fun i H=>∃xs x,iN K H a xs∧xs[i]?=some x,fun i H x H'=>H'=H∧∀xs,iN K H a xs→xs[i]?=some x,fun i H=>∃xs,iN K H a xs∧xs.length≤i⟩
def Kc(K:OU)(a:xM):It:=
  ⟨fun i H=>∃xs x,eV K H a xs∧xs[i]?=some x,fun i H x H'=>H'=H∧∀xs,eV K H a xs→xs[i]?=some x,fun i H=>∃xs,eV K H a xs∧xs.length≤i⟩
def JV(lo:Int)(n:Nat):It:=⟨fun i _=>i < n,fun i H x H'=>H'=H∧x=.int (lo+i),fun i _=>n≤i⟩
theorem zr{P:OZ}{w:OW}{K:OU}{tg:OV}(a it:xM):Cr P w K tg (Kb K a) [it] it (fun i h=>h.IsListIter it a i) where
  mem:=by simp
  obj:=fun i h st b hb=>by
    have e:b=it:=by simpa using hb
    subst e
    obtain⟨o,e,c,d⟩:=st
    exact⟨o,e,fun v z=>by rw [d] at z;cases z⟩
  keep:=fun i h h' st k=>st.at fun o e=>k it (by simp) o e
  item:=by
    intro X hP hw hK hc i pins s σ H E I hf st hg
    subst hP hw hK
    obtain⟨xs,x,hq,hx⟩:=hg
    obtain⟨its,rv,p,hz⟩:=I.list hq
    obtain⟨u,hu,ru⟩:=rv.get hx
    obtain⟨f0,f1,f2,f3,f4,f5⟩:=hf it (by simp)
    refine wpAny_pyNext_list_item st p.isList (x:=u) (by simpa using hu) fun h' st' sb=>?_
    have I1:aM X pins σ H {s with heap:=h'}:=I.turned (t':=s.toks) (fun b o hb e=>(sb.2 b hb).trans e) f0 f1 f3 f4 f5
    obtain⟨o,e,c,d⟩:=id st'
    exact⟨u,rfl,Ag (s:={s with heap:=h'}) e c d (by decide) ⟨x,H,I1,ru,⟨rfl,fun ys hy=>by rw [I.list_inj hy hq];exact hx⟩,st',fun b hb=>(hf b hb).1⟩⟩
  done:=by
    intro X hP hw hK hc i pins s σ H E I hf st hg
    subst hP hw hK
    obtain⟨xs,hq,hx⟩:=hg
    obtain⟨its,rv,p,hz⟩:=I.list hq
    obtain⟨f0,f1,f2,f3,f4,f5⟩:=hf it (by simp)
    have hl:=rv.length
    exact wpAny_pyNext_list_end (I.ok.hd hc) st p.isList (by simp;lia) fun h' eb=>⟨rfl,I.turned (t':=s.toks) (fun b o hb e=>eb b o hb e) f0 f1 f3 f4 f5⟩
  self:=fun _ _ _ _ _ st h=>wpAny_pyIter_listiter st h
theorem xr{P:OZ}{w:OW}{K:OU}{tg:OV}(a it:xM):Cr P w K tg (Kc K a) [it] it (fun i h=>h.IsTupleIter it a i) where
  mem:=by simp
  obj:=fun i h st b hb=>by
    have e:b=it:=by simpa using hb
    subst e
    obtain⟨o,e,c,d⟩:=st
    exact⟨o,e,fun v z=>by rw [d] at z;cases z⟩
  keep:=fun i h h' st k=>st.at fun o e=>k it (by simp) o e
  item:=by
    intro X hP hw hK hc i pins s σ H E I hf st hg
    subst hP hw hK
    obtain⟨xs,x,hq,hx⟩:=hg
    obtain⟨its,rv,p,hz⟩:=I.tuple hq
    obtain⟨u,hu,ru⟩:=rv.get hx
    obtain⟨f0,f1,f2,f3,f4,f5⟩:=hf it (by simp)
    refine wpAny_pyNext_tuple_item st (show s.heap.IsTuple a its.toArray from p) (x:=u) (by simpa using hu) fun h' st' sb=>?_
    have I1:aM X pins σ H {s with heap:=h'}:=I.turned (t':=s.toks) (fun b o hb e=>(sb.2 b hb).trans e) f0 f1 f3 f4 f5
    obtain⟨o,e,c,d⟩:=id st'
    exact⟨u,rfl,Ag (s:={s with heap:=h'}) e c d (by decide) ⟨x,H,I1,ru,⟨rfl,fun ys hy=>by rw [I.tuple_inj hy hq];exact hx⟩,st',fun b hb=>(hf b hb).1⟩⟩
  done:=by
    intro X hP hw hK hc i pins s σ H E I hf st hg
    subst hP hw hK
    obtain⟨xs,hq,hx⟩:=hg
    obtain⟨its,rv,p,hz⟩:=I.tuple hq
    obtain⟨f0,f1,f2,f3,f4,f5⟩:=hf it (by simp)
    have hl:=rv.length
    exact wpAny_pyNext_tuple_end (I.ok.hd hc) st (show s.heap.IsTuple a its.toArray from p) (by simp;lia) fun h' eb=>⟨rfl,I.turned (t':=s.toks) (fun b o hb e=>eb b o hb e) f0 f1 f3 f4 f5⟩
  self:=fun _ _ _ _ _ st h=>wpAny_pyIter_tupleiter st h
theorem xq{P:OZ}{w:OW}{K:OU}{tg:OV}(it:xM)(lo:Int)(n:Nat):Cr P w K tg (JV lo n) [it] it (fun i h=>IsRangeIter h it (lo+(i:Nat)*1) ((n:Int) - (i:Nat)) 1) where
  mem:=by simp
  obj:=fun i h st b hb=>by
    have e:b=it:=by simpa using hb
    subst e
    exact⟨_,st,fun v z=>by
      have z':Data.fields _=Data.cell v:=z
      cases z'⟩
  keep:=fun i h h' st k=>k it (by simp) _ st
  item:=by
    intro X hP hw hK hc i pins s σ H E I hf st hg
    subst hP hw hK
    obtain⟨f0,f1,f2,f3,f4,f5⟩:=hf it (by simp)
    have W:=Walks.range (prog:=X.prog) (w:=X.w) (I.ok.hd hc) it lo 1 n
    refine W.item i s _ _ hg st fun v h' tk hv st' kk=>?_
    obtain⟨t,rfl⟩:=hv
    have I1:aM X pins σ H {s with heap:=h',toks:=tk}:=I.turned (fun b o hb e=>kk b o (by simpa using hb) e) f0 f1 f3 f4 f5
    refine⟨_,rfl,Ag (s:={s with heap:=h',toks:=tk}) (n:="range_iterator") st' rfl rfl (by decide) ⟨.int (lo+i),H,I1,⟨t,?_⟩,⟨rfl,rfl⟩,st',fun b hb=>(hf b hb).1⟩⟩
    rw [Int.mul_one]
  done:=by
    intro X hP hw hK hc i pins s σ H E I hf st hg
    subst hP hw hK
    obtain⟨f0,f1,f2,f3,f4,f5⟩:=hf it (by simp)
    exact wpAny_pyNext_range_end (I.ok.hd hc) st (by have:n≤i:=hg;lia) fun h' eb=>⟨rfl,I.turned (t':=s.toks) (fun b o hb e=>eb b o hb e) f0 f1 f3 f4 f5⟩
  self:=fun _ _ _ _ _ st h=>wpAny_pyIter_rangeiter st h
section
variable{X:Cx}{tg:OV}
def ED(K:OU)(tl:TE):TI:=fun σ H R=>tl σ H fun x H1=>∃a,x=.ref a∧(∃xs,iN K H1 a xs)∧R (Kb K a) H1
def Il(K:OU)(tl:TE):TI:=fun σ H R=>tl σ H fun x H1=>∃a,x=.ref a∧(∃xs,eV K H1 a xs)∧R (Kc K a) H1
theorem DB{l:OV}{tl:TE}(hl:PE X l tl):PI X tg l (ED X.K tl):=by
  intro pins s σ H R I h
  refine cR (hl pins s σ H _ I h) fun v s1 ⟨x,H1,I1,r1,q1⟩=>?_
  obtain⟨a,e,⟨xs,hq⟩,q⟩:=q1
  subst e
  cases r1
  obtain⟨its,rv,p,hz⟩:=I1.list hq
  refine wpAny_pyIter_list p.isList ?_
  refine⟨s1.heap.objs.size,[s1.heap.objs.size],_,_,H1,rfl,I1.kept (t':=s1.toks) fun b o e=>PL _ e,zr a _,⟨_,Qm _ rfl,rfl,rfl⟩,fun b hb=>?_,q⟩
  have e:b=s1.heap.objs.size:=by simpa using hb
  subst e
  exact I1.fpOk (Pp _) (I1.hok.fresh (Pp _))
theorem GX{l:OV}{tl:TE}(hl:PE X l tl):PI X tg l (Il X.K tl):=by
  intro pins s σ H R I h
  refine cR (hl pins s σ H _ I h) fun v s1 ⟨x,H1,I1,r1,q1⟩=>?_
  obtain⟨a,e,⟨xs,hq⟩,q⟩:=q1
  subst e
  cases r1
  obtain⟨its,rv,p,hz⟩:=I1.tuple hq
  refine wpAny_pyIter_tuple (show s1.heap.IsTuple a its.toArray from p) ?_
  refine⟨s1.heap.objs.size,[s1.heap.objs.size],_,_,H1,rfl,I1.kept (t':=s1.toks) fun b o e=>PL _ e,xr a _,⟨_,Qm _ rfl,rfl,rfl⟩,fun b hb=>?_,q⟩
  have e:b=s1.heap.objs.size:=by simpa using hb
  subst e
  exact I1.fpOk (Pp _) (I1.hok.fresh (Pp _))
theorem BC{pins:List (xM × Obj)}{σ:St}{H:Hp}{s:OS}{R:It→Hp→Prop}{E:OR→OS→Prop}{lo hi:Int}{t u v:Tok}{tk:Nat}(I:aM X pins σ H s)(h1: -(2 ^ 62)≤lo)(h2:lo < 2 ^ 62)(h3: -(2 ^ 62)≤hi)(h4:hi < 2 ^ 62)
    (q:R (JV lo (hi - lo).toNat) H):Pc (Pe X.prog X.w) X.A (pyIter (.ref s.heap.objs.size)) (La X pins σ tg R) E {s with heap:=s.heap.push {cls:=.type "range",data:=.fields #[.int lo t,.int hi u,.int 1 v]},toks:=tk}:=by
  refine wpAny_pyIter_range (IsRange.new ..) (small_one h1 h2 h3 h4) ?_
  have I1:aM X pins σ H {s with heap:=s.heap.push {cls:=.type "range",data:=.fields #[.int lo t,.int hi u,.int 1 v]},toks:=tk}:=I.kept fun b o e=>PL _ e
  refine⟨(s.heap.push {cls:=.type "range",data:=.fields #[.int lo t,.int hi u,.int 1 v]}).objs.size,[(s.heap.push {cls:=.type "range",data:=.fields #[.int lo t,.int hi u,.int 1 v]}).objs.size],_,_,H,rfl,
    I1.kept (t':=tk) fun b o e=>PL _ e,xq _ lo (hi - lo).toNat,?_,fun b hb=>?_,q⟩
  · have e1:lo+((0:Nat):Int)*1=lo:=by simp
    have e2:(((hi - lo).toNat:Nat):Int) - ((0:Nat):Int)=Builtin.Range.rangeSize lo hi 1:=by rw [rangeSize_one];split<;>lia
    show IsRangeIter _ _ (lo+((0:Nat):Int)*1) ((((hi - lo).toNat:Nat):Int) - ((0:Nat):Int)) 1
    rw [e1,e2]
    exact Qm _ rfl
  · have e:b=(s.heap.push {cls:=.type "range",data:=.fields #[.int lo t,.int hi u,.int 1 v]}).objs.size:=by simpa using hb
    subst e
    exact I1.fpOk (Pp _) (I1.hok.fresh (Pp _))
def Ik(ta:TA):TI:=fun σ H R=>ta σ H fun vs H1=>∃j:Int,vs=[.int j]∧ -(2 ^ 62)≤j∧j < 2 ^ 62∧R (JV 0 j.toNat) H1
theorem y6{a:OV}{ta:TA}{p pos:Pos}(hg:Gl X "range")(hm:X.mg "range"=none)(ha:PA X [a] ta)(hs:Pd [a] X.env=[(false,Pf a X.env)]:=by rfl):PI X tg (.Call (.Name "range" p) [a] [] pos) (Ik ta):=by
  intro pins s σ H R I h
  refine Call_ (tP I hg hm boot_range (Tx (cR (ha pos pins s σ H _ I h) fun us s1 ⟨vs,H1,I1,r1,q1⟩=>?_) hs rfl))
  obtain⟨j,e,q1,q2,q⟩:=q1
  subst e
  cases r1 with
  | cons r rr=>
    cases rr
    obtain⟨t,rfl⟩:=r
    exact call_range_1 (BC I1 (by lia) (by lia) q1 q2 (by simpa using q))
def KW(wi:TI)(g:TG)(tb:TS):TS:=fun D σ H=>wi σ H fun J H1=>∃W:Nat→Nat→St→Hp→Prop,(∃m,W 0 m σ H1)∧∀i m σ H,W i m σ H→
  (J.stop i H∧D.nx σ H)∨(J.go i H∧∃N:St→Hp→Prop,(∀σ' H',N σ' H'→∃m',m' < m∧W (i+1) m' σ' H')∧∀x H',J.yld i H x H'→g x σ H' fun σ2 H2=>tb {D with nx:=N,ct:=N,bk:=D.nx} σ2 H2)
def qh(fp:List xM)(h:OY):List (xM × Obj):=fp.filterMap fun b=>(h.get? b).map fun o=>(b,o)
theorem jE{fp:List xM}{h:OY}{b:xM}{o:Obj}(hb:b∈fp)(e:h.get? b=some o):(b,o)∈qh fp h:=SX.mpr ⟨b,hb,by rw [e];rfl⟩
theorem yV{fp:List xM}{h:OY}{p:xM × Obj}(hp:p∈qh fp h):p.1∈fp∧h.get? p.1=some p.2:=by
  obtain⟨b,hb,e⟩:=SX.mp hp
  cases q:h.get? b with
  | none=>rw [q] at e;cases e
  | some o=>
    rw [q] at e
    have e':(b,o)=p:=Qq e
    subst e'
    exact⟨hb,q⟩
theorem aM.pinned{pins:List (xM × Obj)}{σ:St}{H:Hp}{s:OS}{fp:List xM}(I:aM X pins σ H s)(hf:∀b∈fp,pk X pins H b)(ho:∀b∈fp,∃o,s.heap.get? b=some o∧∀v,o.data≠.cell v):aM X (pins++qh fp s.heap) σ H s:=
  I.pins_of fun p hp=>(ON hp).elim (fun z=>I.pin p (QU _ z)) fun z=>by
    obtain⟨hb,e⟩:=yV z
    obtain⟨f0,f1,f2,_⟩:=hf p.1 hb
    obtain⟨o,e',d⟩:=ho p.1 hb
    rw [e] at e';cases e'
    exact⟨e,f0,f1,f2,d⟩
theorem aM.unpinned{pins pl:List (xM × Obj)}{σ:St}{H:Hp}{s:OS}(I:aM X (pins++pl) σ H s):aM X pins σ H s:=I.pins_of fun p hp=>I.pin p (QU _ (List.mem_append_left _ hp))
theorem A_{iter:OV}{body:List Pa}{wi:TI}{g:TG}{tb:TS}{pos:Pos}(hp:PassesOwn (Pe X.prog X.w) X.A X.env X.xe)(hc:X.calm=true)(hi:PI X tg iter wi)(hg:PG X tg g)(hb:jj X body tb)
    (hs:∀x,RM iter X.env x=pure x:=by intro _;rfl):PS X (.For tg iter body [] pos) (KW wi g tb):=by
  intro pins s σ H D I h
  refine wpAny_For (cR (hi pins s σ H _ I h) fun v s1 h1=>cR h1 fun itv s2 h2=>?_) hs
  obtain⟨it,fp,tn,J,H2,e,I2,T,st2,f2,W,⟨m0,w0⟩,turn⟩:=h2
  subst e
  have stat:∀{H':Hp},(∀b∈fp,H' b=none)→∀b∈fp,pk X pins H' b:=fun hn b hb=>⟨hn b hb,(f2 b hb).2⟩
  refine codeAny_forLoop_any (fun n s'=>∃i σ' H',aM X pins σ' H' s'∧tn i s'.heap∧(∀b∈fp,H' b=none)∧W i n σ' H') ?_ m0 ⟨0,σ,H2,I2,st2,fun b hb=>(f2 b hb).1,w0⟩
  rintro n s3 ⟨i,σ3,H3,I3,st3,fr3,w3⟩
  rcases turn i n σ3 H3 w3 with ⟨stop,qn⟩ | ⟨go,N,hN,step⟩
  · refine Ry hp (cR (T.done X rfl rfl rfl hc i pins s3 σ3 H3 X.xe I3 (stat fr3) st3 stop) fun r s4 ⟨hr,I4⟩=>?_)
    subst hr
    exact Sn ⟨σ3,H3,I4,qn⟩
  · refine Ry hp (cR (T.item X rfl rfl rfl hc i pins s3 σ3 H3 X.xe I3 (stat fr3) st3 go) fun r s4 ⟨u,hr,h4⟩=>?_)
    subst hr
    refine Ry hp (cR h4 fun _ s5 ⟨x,H5,I5,r5,y5,st5,fr5⟩=>?_)
    have I5':=I5.pinned (stat fr5) (T.obj _ _ st5)
    refine Ry hp (cR (hg _ s5 σ3 H5 x u _ I5' r5 (step x H5 y5)) fun _ s6 ⟨σ6,H6,I6,q6⟩=>?_)
    refine Ry hp (cR (hb _ s6 σ6 H6 _ I6 q6) fun f s7 q7=>?_)
    have again:∀{σ7:St} {H7:Hp},aM X (pins++qh fp s5.heap) σ7 H7 s7→N σ7 H7→∃m,m < n∧∃i σ' H',aM X pins σ' H' s7∧tn i s7.heap∧(∀b∈fp,H' b=none)∧W i m σ' H':=fun{σ7 H7} I7 n7=>by
      obtain⟨m',hm,w7⟩:=hN σ7 H7 n7
      refine⟨m',hm,i+1,σ7,H7,I7.unpinned,T.keep _ _ _ st5 fun b hb o e=>(I7.pin (b,o) (QU _ (QU _ (jE hb e)))).1,fun b hb=>?_,w7⟩
      obtain⟨o,e,d⟩:=T.obj _ _ st5 b hb
      exact(I7.pin (b,o) (QU _ (QU _ (jE hb e)))).2.1
    cases f with
    | next=>obtain⟨σ7,H7,I7,n7⟩:=q7;exact again I7 n7
    | cont=>obtain⟨σ7,H7,I7,n7⟩:=q7;exact again I7 n7
    | brk=>obtain⟨σ7,H7,I7,q7⟩:=q7;exact⟨σ7,H7,I7.unpinned,q7⟩
    | ret v=>obtain⟨x7,σ7,H7,I7,r7,q7⟩:=q7;exact⟨x7,σ7,H7,I7.unpinned,r7,q7⟩
end
abbrev R2:=V→V→Hp→VK→Prop
def iC(X:Cx)(f:OR→OR→Sem OR)(r:R2):Prop:=
  ∀(pins:List (xM × Obj)) (s:OS) (σ:St) (H:Hp) (x y:V) (v u:OR) (Q:VK),aM X pins σ H s→bL x v→bL y u→r x y H Q→
    Pc (Pe X.prog X.w) X.A (f v u) (EP X pins σ Q) X.xe s
def J0(X:Cx)(f:OR→Sem OR)(r:V→Hp→VK→Prop):Prop:=
  ∀(pins:List (xM × Obj)) (s:OS) (σ:St) (H:Hp) (x:V) (v:OR) (Q:VK),aM X pins σ H s→bL x v→r x H Q→
    Pc (Pe X.prog X.w) X.A (f v) (EP X pins σ Q) X.xe s
def dB(X:Cx)(f:OR)(r:List V→Hp→VK→Prop):Prop:=
  ∀(pins:List (xM × Obj)) (s:OS) (σ:St) (H:Hp) (xs:List V) (us:List OR) (Q:VK),aM X pins σ H s→aV xs us→r xs H Q→
    Pc (Pe X.prog X.w) X.A (call f us) (EP X pins σ Q) X.xe s
def HL(r:R2)(ta tb:TE):TE:=fun σ H Q=>ta σ H fun x H1=>tb σ H1 fun y H2=>r x y H2 Q
def Lo(r:V→Hp→VK→Prop)(ta:TE):TE:=fun σ H Q=>ta σ H fun x H1=>r x H1 Q
def rI(C:Int→Int→Prop)(g:Int→Int→V):R2:=fun x y H Q=>∃i j,x=.int i∧y=.int j∧C i j∧Q (g i j) H
def zb(g:Int→Int→V):R2:=fun x y H Q=>∃i j,x=.int i∧y=.int j∧Q (g i j) H
def rU(g:Int→V):V→Hp→VK→Prop:=fun x H Q=>∃i,x=.int i∧Q (g i) H
section
variable{X:Cx}{a b c:OV}{ta tb tc:TE}{pos:Pos}
theorem Fm(ha:PE X a ta)(hb:PE X b tb){pins:List (xM × Obj)}{s:OS}{σ:St}{H:Hp}{R:V→V→Hp→Prop}(I:aM X pins σ H s)
    (h:ta σ H fun x H1=>tb σ H1 fun y H2=>R x y H2){Q:OR→OS→Prop}{f:OR→OR→Sem OR}
    (hf:∀v u s2 x y H2,aM X pins σ H2 s2→bL x v→bL y u→R x y H2→Pc (Pe X.prog X.w) X.A (f v u) Q X.xe s2):
    Pc (Pe X.prog X.w) X.A (Pf a X.env) (fun v s₁=>Pc (Pe X.prog X.w) X.A (Pf b X.env) (fun u s₂=>Pc (Pe X.prog X.w) X.A (f v u) Q X.xe s₂) X.xe s₁) X.xe s:=by
  refine cR (ha pins s σ H _ I h) fun v s1 ⟨x,H1,I1,r1,q1⟩=>?_
  refine cR (hb pins s1 σ H1 _ I1 q1) fun u s2 ⟨y,H2,I2,r2,q2⟩=>?_
  exact hf v u s2 x y H2 I2 r1 r2 q2
theorem EI{op:Operator}{r:R2}(ho:iC X (PR op) r)(ha:PE X a ta)(hb:PE X b tb):PE X (.BinOp a op b pos) (HL r ta tb):=by
  intro pins s σ H Q I h
  exact wpAny_BinOp (Fm ha hb I h fun v u s2 x y H2 I2 rx ry q=>ho pins s2 σ H2 x y v u Q I2 rx ry q)
theorem IZ{op:UnaryOp}{r:V→Hp→VK→Prop}(ho:J0 X (unaryOp op) r)(ha:PE X a ta):PE X (.UnaryOp op a pos) (Lo r ta):=by
  intro pins s σ H Q I h
  exact UnaryOp_ (cR (ha pins s σ H _ I h) fun v s1 ⟨x,H1,I1,r1,q1⟩=>ho pins s1 σ H1 x v Q I1 r1 q1)
theorem IT{f:OR→OR→Sem OR}{C:Int→Int→Prop}{g:Int→Int→Int}
    (rule:∀(i j:Int) (t u:Tok) (s:OS) (Q:OR→OS→Prop) (E:OR→OS→Prop),C i j→Q (.int (g i j) s.toks) {s with toks:=s.toks+1}→Pc (Pe X.prog X.w) X.A (f (.int i t) (.int j u)) Q E s):
    iC X f (rI C fun i j=>.int (g i j)):=by
  intro pins s σ H x y v u Q I rx ry h
  obtain⟨i,j,rfl,rfl,hc,q⟩:=h
  obtain⟨t,rfl⟩:=rx
  obtain⟨t',rfl⟩:=ry
  exact rule i j t t' s _ _ hc ⟨.int (g i j),H,I.tok _,⟨_,rfl⟩,q⟩
theorem IU{f:OR→OR→Sem OR}{g:Int→Int→Int}
    (rule:∀(i j:Int) (t u:Tok) (s:OS) (Q:OR→OS→Prop) (E:OR→OS→Prop),Q (.int (g i j) s.toks) {s with toks:=s.toks+1}→Pc (Pe X.prog X.w) X.A (f (.int i t) (.int j u)) Q E s):
    iC X f (zb fun i j=>.int (g i j)):=by
  intro pins s σ H x y v u Q I rx ry h
  obtain⟨i,j,rfl,rfl,q⟩:=h
  obtain⟨t,rfl⟩:=rx
  obtain⟨t',rfl⟩:=ry
  exact rule i j t t' s _ _ ⟨.int (g i j),H,I.tok _,⟨_,rfl⟩,q⟩
theorem GE{f:OR→OR→Sem OR}{g:Int→Int→Bool}
    (rule:∀(i j:Int) (t u:Tok) (s:OS) (Q:OR→OS→Prop) (E:OR→OS→Prop),Q (.bool (g i j)) s→Pc (Pe X.prog X.w) X.A (f (.int i t) (.int j u)) Q E s):
    iC X f (zb fun i j=>.bl (g i j)):=by
  intro pins s σ H x y v u Q I rx ry h
  obtain⟨i,j,rfl,rfl,q⟩:=h
  obtain⟨t,rfl⟩:=rx
  obtain⟨t',rfl⟩:=ry
  exact rule i j t t' s _ _ ⟨.bl (g i j),H,I,rfl,q⟩
def E_(i j:Int):Prop:=0≤j∧j≤1000000∧i.natAbs < 2 ^ 64
def Cn(i j:Int):Prop:=(-(2 ^ 64) < i∧i < 2 ^ 64)∨(-(2 ^ 64) < j∧j < 2 ^ 64)
theorem Cn.ok{i j:Int}(h:Cn i j):IntMulOk i j:=by
  rcases h with ⟨h1,h2⟩ | ⟨h1,h2⟩
  · exact .of_left (intBits_le_64 h1 h2)
  · exact .of_right (intBits_le_64 h1 h2)
theorem GF:iC X (PR .Add) (zb fun i j=>.int (i+j)):=IU fun _ _ _ _ _ _ _ q=>add_int q
theorem GQ:iC X (PR .Sub) (zb fun i j=>.int (i - j)):=IU fun _ _ _ _ _ _ _ q=>sub_int q
theorem GM:iC X (PR .Mult) (rI Cn fun i j=>.int (i*j)):=IT fun _ _ _ _ _ _ _ hc q=>mul_int q hc.ok
theorem Do:iC X (PR .Mod) (rI (fun _ j=>j≠0) fun i j=>.int (i.fmod j)):=IT fun _ _ _ _ _ _ _ hc q=>mod_int' hc q
theorem GO:iC X (PR .Pow) (rI E_ fun i j=>.int (i ^ j.toNat)):=IT fun _ _ _ _ _ _ _ hc q=>pow_int_small hc.1 hc.2.1 hc.2.2 q
theorem LZ{f:OR→Sem OR}{g:Int→Int}
    (rule:∀(i:Int) (t:Tok) (s:OS) (Q:OR→OS→Prop) (E:OR→OS→Prop),Q (.int (g i) s.toks) {s with toks:=s.toks+1}→Pc (Pe X.prog X.w) X.A (f (.int i t)) Q E s):
    J0 X f (rU fun i=>.int (g i)):=by
  intro pins s σ H x v Q I rx h
  obtain⟨i,rfl,q⟩:=h
  obtain⟨t,rfl⟩:=rx
  exact rule i t s _ _ ⟨.int (g i),H,I.tok _,⟨_,rfl⟩,q⟩
theorem Hx:J0 X (unaryOp .USub) (rU fun i=>.int (-i)):=LZ fun _ _ _ _ _ q=>neg_int q
end
section
variable{X:Cx}{a b c:OV}{ta tb tc:TE}{pos:Pos}
theorem zY{pins:List (xM × Obj)}{σ:St}{H:Hp}{s:OS}{Q:VK}{k k':Bool}(I:aM X pins σ H s)(q:Q (.bl k) H)(e:k=k'):EP X pins σ Q (.bool k') s:=by
  subst e
  exact⟨.bl k,H,I,rfl,q⟩
theorem IX:iC X (PZ .Lt) (zb fun i j=>.bl (decide (i < j))):=GE fun _ _ _ _ _ _ _ q=>lt_int q
theorem IW:iC X (PZ .Gt) (zb fun i j=>.bl (decide (j < i))):=GE fun _ _ _ _ _ _ _ q=>gt_int q
theorem IV:iC X (PZ .GtE) (zb fun i j=>.bl (decide (j≤i))):=GE fun _ _ _ _ _ _ _ q=>ge_int q
theorem GL:iC X (PZ .Is) (fun x y H Q=>y=.non∧Q (.bl (decide (x=.non))) H):=by
  intro pins s σ H x y v u Q I rx ry h
  obtain⟨rfl,q⟩:=h
  cases ry
  refine is_none_gen (zY I q ?_)
  cases x<;>first
    | (cases rx;rfl)
    | (obtain⟨t,rfl⟩:=rx;rfl)
theorem Ds:iC X (PZ .IsNot) (fun x y H Q=>y=.non∧Q (.bl (!decide (x=.non))) H):=by
  intro pins s σ H x y v u Q I rx ry h
  obtain⟨rfl,q⟩:=h
  cases ry
  refine isnot_none_gen (zY I q ?_)
  cases x<;>first
    | (cases rx;rfl)
    | (obtain⟨t,rfl⟩:=rx;rfl)
theorem iC.or{f:OR→OR→Sem OR}{r r':R2}(h:iC X f r)(h':iC X f r'):iC X f (fun x y H Q=>r x y H Q∨r' x y H Q):=by
  intro pins s σ H x y v u Q I rx ry q
  rcases q with q | q
  · exact h pins s σ H x y v u Q I rx ry q
  · exact h' pins s σ H x y v u Q I rx ry q
theorem aG(b:OV){op:CmpOp}(h:op≠.In:=by decide)(h2:op≠.NotIn:=by decide):QC op b=false:=by
  have e1:(op==CmpOp.In)=false:=by cases op<;>first | rfl | exact absurd rfl h
  have e2:(op==CmpOp.NotIn)=false:=by cases op<;>first | rfl | exact absurd rfl h2
  cases b<;>simp [QC,e1,e2]
theorem Dx{op:CmpOp}{r:R2}(ho:iC X (PZ op) r)(ha:PE X a ta)(hb:PE X b tb)(hm:QC op b=false):PE X (.Compare a [op] [b] pos) (HL r ta tb):=by
  intro pins s σ H Q I h
  exact wpAny_Compare1 (Fm ha hb I h fun v u s2 x y H2 I2 rx ry q=>ho pins s2 σ H2 x y v u Q I2 rx ry q) hm
def JK(t:TE):TT:=fun σ H Q=>t σ H fun x H'=>∃k,x=.bl k∧Q k H'
theorem x9{op:CmpOp}{r:R2}(ho:iC X (PZ op) r)(ha:PE X a ta)(hb:PE X b tb)(hm:QC op b=false):PT X (.Compare a [op] [b] pos) (JK (HL r ta tb)):=by
  intro pins s σ H Q I h
  refine wpAny_isTrue_Compare1 (cR (ha pins s σ H _ I h) fun v s1 ⟨x,H1,I1,r1,q1⟩=>cR (hb pins s1 σ H1 _ I1 q1) fun u s2 ⟨y,H2,I2,r2,q2⟩=>
    cR (ho pins s2 σ H2 x y v u _ I2 r1 r2 q2) fun c s3 ⟨z,H3,I3,r3,k,e,q3⟩=>?_) hm
  subst e
  cases r3
  exact RU ⟨H3,I3,q3⟩
theorem wJ:(Pk:Nat) < 2 ^ 63:=by rw [Qg];decide
theorem sN{x:V}{us:List OR}(r:aV [x] us):∃u,us=[u]∧bL x u:=by
  cases r with
  | cons r1 r2=>cases r2;exact⟨_,rfl,r1⟩
theorem E7{x y:V}{us:List OR}(r:aV [x,y] us):∃u w',us=[u,w']∧bL x u∧bL y w':=by
  cases r with
  | cons r1 r2=>
    cases r2 with
    | cons r3 r4=>cases r4;exact⟨_,_,rfl,r1,r3⟩
theorem zL:dB X (.builtin "abs") (fun xs H Q=>∃i,xs=[.int i]∧Q (.int (if i < 0 then -i else i)) H):=by
  intro pins s σ H xs us Q I r h
  obtain⟨i,rfl,q⟩:=h
  obtain⟨u,rfl,t,rfl⟩:=sN r
  exact call_abs_int fun u tk=>⟨.int (if i < 0 then -i else i),H,I.tok _,⟨_,rfl⟩,q⟩
theorem yA(hc:X.calm=true):dB X (.builtin "max") (fun xs H Q=>∃i j,xs=[.int i,.int j]∧Q (.int (if j > i then j else i)) H):=by
  intro pins s σ H xs us Q I r h
  obtain⟨i,j,rfl,q⟩:=h
  obtain⟨u,w',rfl,⟨t,rfl⟩,⟨t',rfl⟩⟩:=E7 r
  refine max_two_ints (I.ok.hd hc) fun h' tk k=>⟨_,H,I.kept k,?_,q⟩
  by_cases hj:j > i
  · rw [if_pos hj,if_pos hj];exact⟨_,rfl⟩
  · rw [if_neg hj,if_neg hj];exact⟨_,rfl⟩
theorem yB(hc:X.calm=true):dB X (.builtin "min") (fun xs H Q=>∃i j,xs=[.int i,.int j]∧Q (.int (if j < i then j else i)) H):=by
  intro pins s σ H xs us Q I r h
  obtain⟨i,j,rfl,q⟩:=h
  obtain⟨u,w',rfl,⟨t,rfl⟩,⟨t',rfl⟩⟩:=E7 r
  refine min_two_ints (I.ok.hd hc) fun h' tk k=>⟨_,H,I.kept k,?_,q⟩
  by_cases hj:j < i
  · rw [if_pos hj,if_pos hj];exact⟨_,rfl⟩
  · rw [if_neg hj,if_neg hj];exact⟨_,rfl⟩
theorem yz:dB X (.type "int") (fun xs H Q=>(∃i,xs=[.int i]∧Q (.int i) H)∨∃k,xs=[.bl k]∧Q (.int (if k then 1 else 0)) H):=by
  intro pins s σ H xs us Q I r h
  rcases h with ⟨i,rfl,q⟩ | ⟨k,rfl,q⟩
  · obtain⟨u,rfl,t,rfl⟩:=sN r
    exact call_int_int ⟨.int i,H,I,⟨_,rfl⟩,q⟩
  · obtain⟨u,rfl,r1⟩:=sN r
    cases r1
    exact call_int_bool ⟨.int (if k then 1 else 0),H,I.tok _,⟨_,rfl⟩,q⟩
end
structure vZ (h:OY) (x dx C:xM) (mA:Str→Option OR):Prop where
  obj:h.get? x=some (Rg C dx)
  ns:h.Ns1 dx mA
  ne:dx≠x
theorem yT{h:OY}{dx:xM}{mA:Str→Option OR}(n:h.Ns1 dx mA):∃od,h.get? dx=some od∧∀name,Sr name od=some (mA name):=by
  obtain⟨o,es,ep,ho,hd,hk,_,hm⟩:=n
  refine⟨o,ho,fun name=>?_⟩
  have e:=hm name
  unfold nsFind findBy at e
  rw [←Array.find?_toList] at e
  unfold Sr
  rw [hd]
  dsimp only
  split
  · rename_i y q
    rw [q] at e
    exact congrArg some e
  · rename_i q
    rw [q] at e
    have a:es.toList.any (·.refKey)=false:=by
      rw [List.any_eq_false]
      intro y hy
      obtain⟨z,t,hkey⟩:=hk y (Array.mem_toList_iff.mp hy)
      simp [DictEntry.refKey,hkey]
    have a':¬es.toList.any (·.refKey)=true:=by rw [a];exact Rz
    rw [if_neg a']
    exact congrArg some e
theorem vZ.look{h:OY}{x dx C:xM}{mA:Str→Option OR}(I:vZ h x dx C mA):∃od,PySem.W.InstAt h x (Rg C dx) C (some od)∧∀name,Sr name od=some (mA name):=
  let ⟨od,ho,hl⟩:=yT I.ns
  ⟨od,⟨I.obj,rfl,rfl,ho⟩,hl⟩
section
variable{prog:OZ}{w:OW}{A:Pb}{E:OR→OS→Prop}{s:OS}{K:OU}{x dx C f:xM}{mA:Str→Option OR}{name:Str}{v:OR}
theorem CN{expr:Bool}{Q:OR→OS→Prop}(X:K.In s.heap)(I:vZ s.heap x dx C mA)(hg:Ss K C name=true)(hh:Ta K C=true)
    (ha:Qx K (.ref C) name=some none)(hv:mA name=some v)(hv':PySem.W.handedIn v=true)(h:Q v {s with toks:=s.toks+1}):
    Pc (Pe prog w) A (getAttr (.ref x) name expr) Q E s:=by
  obtain⟨od,J,hl⟩:=I.look
  exact PySem.W.get_value X J (Tc hg).1 (PySem.W.findObj_own hh ha rfl (by rw [hl,hv])) hv' h
theorem Af{pl:Sem Bool}{Q:OR × List OR→OS→Prop}(X:K.In s.heap)(I:vZ s.heap x dx C mA)(hg:Ss K C name=true)
    (hf:Qx K (.ref C) name=some (some (.ref f)))(ht:PySem.W.isFn K (.ref f)=true)(hv:mA name=none)(h:Q (.ref f,[.ref x]) s):
    Pc (Pe prog w) A (RB (.ref x) name pl) Q E s:=by
  obtain⟨od,J,hl⟩:=I.look
  exact PySem.W.method_fn X J (Tc hg).1 (Tc hg).2 hf (beq_iff_eq.mp ht) (by show(Sr name od).map (·.isSome)=some false;rw [hl,hv];rfl) h
theorem DU{ns:List Str}{Q:Unit→OS→Prop}(X:K.In s.heap)(I:vZ s.heap x dx C mA)
    (hs:Qx K (.ref C) "__setattr__"=some (some (.builtin "object.__setattr__")))(hp:PySem.W.plainOver K C=true)(ht:PySem.W.takerIn K C name=some none)(hh:Ta K C=true)
    (hw:PySem.Within mA ns)(hsz:ns.length≤Pk)
    (h:∀h',vZ h' x dx C (fun y=>if y=name then some v else mA y)→RL dx s.heap h'→Q () {s with heap:=h',toks:=s.toks+2}):
    Pc (Pe prog w) A (setAttr (.ref x) name v) Q E s:=by
  obtain⟨od,J,hl⟩:=I.look
  refine PySem.W.set_plain X J hs (PySem.W.osa_open (s:={s with toks:=s.toks+1}) (r:=none) X J hp ht fun b=>?_)
  obtain⟨cd,hc,hd'⟩:=PySem.W.any_some hh
  have hx:s.heap.get? x=some ⟨.ref C,some dx,.plain,#[]⟩:=I.obj
  refine Ph (Pl (Ph (Ph (wpAny_loadPart hx (Ph (PySem.W.Looks.here (s:={s with toks:=s.toks+1}) (PySem.W.looks_clsIn X hc) ?_))))))
  rw [hd']
  refine Pl (a:=some dx) (Ph (Pl (Ph ?_)))
  refine wpAny_nsSet1 (s:={s with toks:=s.toks+1}) I.ns fun h' hn2 hs2=>?_
  obtain⟨oD,esD,epD,hoD,hdD,hcD⟩:=hn2.count (PySem.Within.cons name v hw)
  refine Ph (wpAny_lookBehind hoD (by rw [hdD];exact pastItsLine_dict (PK hcD (by rw [QD];lia))) ?_)
  exact Pl (h _ ⟨(hs2.2 _ (Pt I.ne)).trans I.obj,hn2,I.ne⟩ hs2)
theorem Ax{R:Result→OS→Prop}{vs:List OR}{kw:List (Str × OR)}(X:K.In s.heap)(hm:PySem.W.makesIn K C=true)
    (hi:Qx K (.ref C) "__init__"=some (some (.ref f)))(hf:PySem.W.typeIn K (.ref f)=some (.type "function"))
    (h:codeAny (Pe prog w) (A.under (.builtin "type.__call__" ⟨.ref C::vs,kw⟩)) (.call (.ref f) ⟨.ref (s.heap.objs.size+1)::vs,kw⟩) (PySem.W.InitBack (s.heap.objs.size+1) R)
      {s with heap:=(s.heap.push Rf).push (Rg C s.heap.objs.size)}):
    codeAny (Pe prog w) A (.call (.ref C) ⟨vs,kw⟩) R s:=by
  obtain⟨hh,g,d,t,os⟩:=s
  exact PySem.W.make_core (PySem.W.makes_of X hm) (PySem.W.looks_findIn X hi) (fun self=>PySem.W.bind_fn X self hf) (.inl rfl) h
end
def i7(f:Str)(v:V):List (Str × V)→List (Str × V)
  | []=>[(f,v)]
  | (g,x)::r=>if g=f then(g,v)::r else(g,x)::i7 f v r
theorem oj(f g:Str)(v:V):∀fs:List (Str × V),(i7 f v fs).lookup g=if g=f then some v else fs.lookup g
  | []=>by
    show PU g [(f,v)]=_
    by_cases h:g=f
    · have hb:(g==f)=true:=beq_iff_eq.mpr h
      simp only [PU,hb,if_pos h]
    · have hb:(g==f)=false:=beq_eq_false_iff_ne.mpr h
      simp only [PU,hb,if_neg h]
  | (k,x)::r=>by
    have ih:=oj f g v r
    rw [show i7 f v ((k,x)::r)=(if k=f then(k,v)::r else(k,x)::i7 f v r) from rfl]
    by_cases hk:k=f
    · rw [if_pos hk]
      by_cases h:g=k
      · have hb:(g==k)=true:=beq_iff_eq.mpr h
        simp only [PU,hb,if_pos (h.trans hk)]
      · have hb:(g==k)=false:=beq_eq_false_iff_ne.mpr h
        simp only [PU,hb,if_neg (fun e:g=f=>h (e.trans hk.symm))]
    · rw [if_neg hk]
      by_cases h:g=k
      · have hb:(g==k)=true:=beq_iff_eq.mpr h
        simp only [PU,hb,if_neg (fun e:g=f=>hk (h.symm.trans e))]
      · have hb:(g==k)=false:=beq_eq_false_iff_ne.mpr h
        simp only [PU,hb]
        exact ih
theorem ng(f:Str)(v:V):∀fs:List (Str × V),f∈(i7 f v fs).map (·.1)∧∀g,g∈fs.map (·.1)→g∈(i7 f v fs).map (·.1)
  | []=>⟨by simp [i7],fun g h=>by simp at h⟩
  | (k,x)::r=>by
    obtain⟨i1,i2⟩:=ng f v r
    rw [show i7 f v ((k,x)::r)=(if k=f then(k,v)::r else(k,x)::i7 f v r) from rfl]
    by_cases hk:k=f
    · rw [if_pos hk]
      subst hk
      exact⟨by simp,fun g h=>by simpa using h⟩
    · rw [if_neg hk]
      refine⟨?_,fun g h=>?_⟩
      · rw [Pw]
        exact PP _ i1
      · rw [Pw] at h ⊢
        rcases OP h with e | e
        · exact QI.mpr (.inl e)
        · exact PP _ (i2 g e)
theorem oh(f:Str)(v:V):∀fs:List (Str × V),(i7 f v fs).length≤fs.length+1
  | []=>by simp [i7]
  | (k,x)::r=>by
    have ih:=oh f v r
    rw [show i7 f v ((k,x)::r)=(if k=f then(k,v)::r else(k,x)::i7 f v r) from rfl]
    by_cases hk:k=f
    · rw [if_pos hk,QD,QD];lia
    · rw [if_neg hk,QD,QD];lia
theorem qS.some_of{v:V}{o:Option OR}(r:qS (some v) o):∃u,o=some u∧bL v u:=by
  cases o with
  | none=>exact(show False from r).elim
  | some u=>exact⟨u,rfl,r⟩
theorem qS.none_of{o:Option OR}(r:qS none o):o=none:=by
  cases o with
  | none=>rfl
  | some u=>exact(show False from r).elim
theorem yN{v:V}{u:OR}(r:bL v u):PySem.W.handedIn u=true:=by
  cases v with
  | non=>cases (show u=Value.none from r);rfl
  | bl b=>cases (show u=Value.bool b from r);rfl
  | int i=>obtain⟨t,e⟩:=(show ∃t,u=Value.int i t from r);cases e;rfl
  | str x=>obtain⟨t,e⟩:=(show ∃t,u=Value.str x t from r);cases e;rfl
  | byt b=>obtain⟨t,e⟩:=(show ∃t,u=Value.bytes b t from r);cases e;rfl
  | flt b=>obtain⟨t,e⟩:=(show ∃t,u=Value.float b t from r);cases e;rfl
  | ref a=>cases (show u=Value.ref a from r);rfl
  | ty n=>cases (show u=Value.type n from r);rfl
section
variable{P:OZ}{w:OW}{H H':Hp}{h h':OY}{a C dx:xM}{fs fs':List (Str × V)}
theorem tJ(hok:oF P w H h)(e:H a=some (.ins C dx fs)):∃mA,vZ h a dx C mA∧(∀f,qS (fs.lookup f) (mA f))∧PySem.Within mA (fs.map (·.1))∧fs.length≤1000∧H dx=some (.own a):=by
  obtain⟨d,z,ne,ob,mA,n,r,q⟩:=(show gy P w H h a (.ins C dx fs) from hok a _ e)
  exact⟨mA,⟨ob,n,ne⟩,r,q,z,d⟩
end
structure oT (K:OU) (C:xM):Prop where
  pg:Ss K C QV=true
  hd:Ta K C=true
  po:PySem.W.plainOver K C=true
  sa:Qx K (.ref C) "__setattr__"=some (some (.builtin "object.__setattr__"))
theorem oT.get{K:OU}{C:xM}(c:oT K C)(f:Str):Ss K C f=true:=c.pg
def bF(K:OU)(C:xM)(f:Str):Prop:=Qx K (.ref C) f=some none
theorem bF.taker{K:OU}{C:xM}{f:Str}(n:bF K C f):PySem.W.takerIn K C f=some none:=by
  unfold PySem.W.takerIn
  rw [show Qx K (.ref C) f=some none from n]
  rfl
structure L1 (K:OU) (C:xM) (f:Str) (v:V) (u:OR):Prop where
  at_:Qx K (.ref C) f=some (some u)
  rel:bL v u
  get:PySem.W.specialIn K u "__get__"=some none
  cp:PySem.W.copiedNames.contains f=false
structure kU (K:OU) (C:xM) (m:Str) (f:xM):Prop where
  at_:Qx K (.ref C) m=some (some (.ref f))
  fn:PySem.W.isFn K (.ref f)=true
  kp:Rh K (.ref f)=true
section
variable{X:Cx}{pins:List (xM × Obj)}{σ:St}{H:Hp}{s:OS}{a C dx:xM}{fs:List (Str × V)}{f:Str}{v:V}{A:Pb}{E:OR→OS→Prop}
theorem wA{b:Bool}{Q:OR→OS→Prop}(I:aM X pins σ H s)(e:H a=some (.ins C dx fs))(c:oT X.K C)(n:bF X.K C f)(l:fs.lookup f=some v)
    (h:∀u s',aM X pins σ H s'→bL v u→Q u s'):Pc (Pe X.prog X.w) A (getAttr (.ref a) f b) Q E s:=by
  obtain⟨mA,O,r,_,_,_⟩:=tJ I.hok e
  obtain⟨u,hu,ru⟩:=qS.some_of (v:=v) (o:=mA f) (by rw [←l];exact r f)
  exact CN I.kIn O (c.get f) c.hd n hu (yN ru) (h u _ (I.tok _) ru)
theorem pS{m:Str}{g:xM}{pl:Sem Bool}{Q:OR × List OR→OS→Prop}(I:aM X pins σ H s)(e:H a=some (.ins C dx fs))(c:oT X.K C)(k:kU X.K C m g)(l:fs.lookup m=none)
    (h:Q (.ref g,[.ref a]) s):Pc (Pe X.prog X.w) A (RB (.ref a) m pl) Q E s:=by
  obtain⟨mA,O,r,_,_,_⟩:=tJ I.hok e
  have hn:mA m=none:=qS.none_of (by rw [←l];exact r m)
  exact Af I.kIn O (c.get m) k.at_ k.fn hn h
theorem xi{y:V}{u:OR}{Q:Unit→OS→Prop}(I:aM X pins σ H s)(e:H a=some (.ins C dx fs))(c:oT X.K C)(n:bF X.K C f)(hl:fs.length < 1000)(ry:bL y u)
    (h:∀s',aM X pins σ (bE H a (.ins C dx (i7 f y fs))) s'→Q () s'):Pc (Pe X.prog X.w) A (setAttr (.ref a) f u) Q E s:=by
  obtain⟨mA,O,r,wi,_,ho⟩:=tJ I.hok e
  have hz:(fs.map (·.1)).length≤Pk:=by rw [Px,Qg];lia
  refine DU I.kIn O c.sa c.po n.taker c.hd wi hz fun h' O' sb=>h _ ?_
  have hd:∃o,h'.get? dx=some o:=let ⟨o,_,_,e',_⟩:=O'.ns;⟨o,e'⟩
  refine I.write (x:=a) (e:=dx) (by rw [e];exact RN) (.inr ho) (fun b q hb z=>(sb.2 b hb).trans z) hd ?_
  refine⟨by rw [ax O.ne];exact ho,?_,O.ne,O'.obj,_,O'.ns,fun g=>?_,fun g hg=>?_⟩
  · have:=oh f y fs;lia
  · show qS ((i7 f y fs).lookup g) (if g=f then some u else mA g)
    rw [oj]
    by_cases q:g=f
    · rw [if_pos q,if_pos q];exact ry
    · rw [if_neg q,if_neg q];exact r g
  · by_cases q:g=f
    · rw [q];exact(ng f y fs).1
    · refine(ng f y fs).2 g (wi g fun z=>hg ?_)
      show(if g=f then some u else mA g)=none
      rw [if_neg q];exact z
theorem aM.made(I:aM X pins σ H s):aM X pins σ (bE (bE H s.heap.objs.size (.own (s.heap.objs.size+1))) (s.heap.objs.size+1) (.ins C s.heap.objs.size []))
    {s with heap:=(s.heap.push Rf).push (Rg C s.heap.objs.size)}:=by
  have e1:(s.heap.push Rf).get? s.heap.objs.size=some Rf:=Qm s.heap rfl
  have e2:((s.heap.push Rf).push (Rg C s.heap.objs.size)).get? (s.heap.objs.size+1)=some (Rg C s.heap.objs.size):=by
    have:=Qm (s.heap.push Rf) (o:=Rg C s.heap.objs.size) rfl
    rwa [RX] at this
  have e3:(s.heap.push Rf).Ns s.heap.objs.size (fun _=>none):=⟨Rf,#[],_,e1,rfl,(fun e he=>absurd he (by simp)),fun _=>rfl⟩
  have I1:=I.laid (a:=s.heap.objs.size) (o:=.own (s.heap.objs.size+1)) (h':=s.heap.push Rf) (t':=s.toks) (fun b u q=>PL _ q) (Pp _) ⟨_,e1⟩
  refine I1.laid (a:=s.heap.objs.size+1) (o:=.ins C s.heap.objs.size []) (t':=s.toks) (fun b u q=>PL _ q) (Nat.le_of_eq (RX _ _)) ?_
  have ne:s.heap.objs.size≠s.heap.objs.size+1:=Qn (Nat.lt_succ_self _)
  refine⟨by rw [ax ne,av],QP _,ne,e2,fun _=>none,(Heap.Ns1.of_empty e3).at fun o q=>PL _ q,fun _=>RN,fun y hy=>absurd rfl hy⟩
theorem Cu{prog:OZ}{w:OW}{env:Env}{e:OV}{f:Str}{pos:Pos}{s:OS}{Q:OR→OS→Prop}(hb:Qr e f env (Pf e env)=Pf e env)
    (h:Pc (Pe prog w) A (Pf e env) (fun o s₁=>Pc (Pe prog w) A (getAttr o f true) Q E s₁) E s):Pc (Pe prog w) A (Pf (.Attribute e f pos) env) Q E s:=
  Attribute_any_ h (by rw [arm_eval_Attribute,hb])
end
def KU(K:OU)(ta:TE)(f:Str):TE:=fun σ H Q=>ta σ H fun x H1=>∃a C dx fs v,x=.ref a∧H1 a=some (.ins C dx fs)∧oT K C∧bF K C f∧fs.lookup f=some v∧Q v H1
def KP(K:OU)(ta tv:TE)(f:Str):TS:=fun D σ H=>tv σ H fun y H1=>ta σ H1 fun x H2=>∃a C dx fs,x=.ref a∧H2 a=some (.ins C dx fs)∧oT K C∧bF K C f∧fs.length < 1000∧
  D.nx σ (bE H2 a (.ins C dx (i7 f y fs)))
section
variable{X:Cx}{o e value:OV}{f:Str}{pos pos' tpos:Pos}{ta tv:TE}
theorem GS(he:PE X e ta)(hb:Qr e f X.env (Pf e X.env)=Pf e X.env):PE X (.Attribute e f pos) (KU X.K ta f):=by
  intro pins s σ H Q I h
  refine Cu hb (cR (he pins s σ H _ I h) fun u s1 ⟨x,H1,I1,rx,a,C,dx,fs,v,ex,ea,c,n,l,q⟩=>?_)
  subst ex
  obtain rfl:u=Value.ref a:=rx
  exact wA I1 ea c n l fun u' s2 I2 ru=>⟨v,H1,I2,ru,q⟩
theorem GY(ha:PE X o ta)(hv:PE X value tv)(hs:QO value (some (.Attribute o f pos')) pos.line X.env=pure false):PS X (.Assign [.Attribute o f pos'] value pos) (KP X.K ta tv f):=by
  intro pins s σ H D I h
  refine plainObj_wpAny_Assign_Attribute (cR (hv pins s σ H _ I h) fun u s1 ⟨y,H1,I1,ry,q⟩=>cR (ha pins s1 σ H1 _ I1 q) fun ov s2 ⟨x,H2,I2,rx,a,C,dx,fs,ex,ea,c,n,l,q2⟩=>?_) hs
  subst ex
  obtain rfl:ov=Value.ref a:=rx
  exact xi I2 ea c n l ry fun s3 I3=>⟨σ,_,I3,q2⟩
end
section
variable{X:Cx}{pins:List (xM × Obj)}{σ:St}{H:Hp}{s:OS}{A:Pb}{E:OR→OS→Prop}{Q:OR→OS→Prop}{c:OR}{b:Bool}
inductive pv (K:OU) (H:Hp):V→OR→Prop where
  | non:pv K H .non (.type "NoneType")
  | bl (x:Bool):pv K H (.bl x) (.type "bool")
  | int (i:Int):pv K H (.int i) (.type "int")
  | str (x:Str):pv K H (.str x) (.type "str")
  | flt (x:UInt64):pv K H (.flt x) (.type "float")
  | lst {a:xM} {xs:List V} (e:H a=some (.lst xs)):pv K H (.ref a) (.type "list")
  | frz {a:xM} {o:Obj} {xs:List V} (e:H a=some (.frz o (.lst xs))):pv K H (.ref a) (.type "list")
  | tup {a:xM} {xs:List V} (e:H a=some (.tup xs)):pv K H (.ref a) (.type "tuple")
  | dK {a:xM} {kvs:List (jW × V)} (e:H a=some (.dK kvs)):pv K H (.ref a) (.type "dict")
  | dT {a:xM} {kvs:List (List jW × V)} (e:H a=some (.dT kvs)):pv K H (.ref a) (.type "dict")
  | ins {a C dx:xM} {fs:List (Str × V)} (e:H a=some (.ins C dx fs)) (cl:oT K C) (ha:Qx K (.ref C) "__class__"=some (some (.builtin "object.__class__")))
      (hn:PySem.W.specialIn K (.builtin "object.__class__") "__get__"=some (some (.builtin "getset_descriptor.__get__"))) (htk:PySem.W.takesIn K (.builtin "object.__class__")=some true)
      (hm:PySem.W.mroIn K C (.type "object")=some true):pv K H (.ref a) (.ref C)
end
structure bG (k:Nat) (A:Pb):Prop where
  hd:A.handled=none
  dp:A.depth+3*k+5 < recursionLimit
  un:A.units+16*k+200 < cLine
  gd:A.guards=some []
theorem bG.mono{j k:Nat}{A:Pb}(r:bG k A)(h:j≤k):bG j A:=⟨r.hd,by have:=r.dp;lia,by have:=r.un;lia,r.gd⟩
theorem bG.deeper{k:Nat}{A:Pb}(r:bG (k+1) A)(env:Env):bG k (A.deeper env):=
  ⟨r.hd,by have:=r.dp;show A.depth+1+3*k+5 < _;lia,by have:=r.un;show A.units+3+16*k+200 < _;lia,r.gd⟩
theorem wN{A:Pb}{C:xM}{us:List OR}{kw:List (Str × OR)}:(A.under (.builtin "type.__call__" ⟨.ref C::us,kw⟩)).depth=A.depth+1:=by
  first | rfl | simp [Su,Code.weight,Code.isCreation,Code.isGuard,Code.isCaller,Code.frames,Code.isFrame,guardIds]
theorem wQ{A:Pb}{C:xM}{us:List OR}{kw:List (Str × OR)}:(A.under (.builtin "type.__call__" ⟨.ref C::us,kw⟩)).units=A.units+1:=by
  first | rfl | simp [Su,Code.cUnits,Code.frames,Code.isFrame]
theorem bG.make{k:Nat}{A:Pb}(r:bG (k+1) A)(C:xM)(us:List OR)(kw:List (Str × OR)):bG k (A.under (.builtin "type.__call__" ⟨.ref C::us,kw⟩)):=
  ⟨r.hd,by have:=r.dp;rw [wN];lia,by have:=r.un;rw [wQ];lia,by first | exact r.gd | simpa [Su,Code.isGuard,guardIds] using r.gd⟩
theorem bG.depth{k:Nat}{A:Pb}(r:bG k A):A.depth < recursionLimit:=by have:=r.dp;lia
theorem bG.units{k:Nat}{A:Pb}(r:bG k A):A.units+64 < cLine:=by have:=r.un;lia
def BZ:TA:=fun _ H Q=>Q [] H
def oA(ta:TE)(tr:TA):TA:=fun σ H Q=>ta σ H fun x H1=>tr σ H1 fun xs H2=>Q (x::xs) H2
section
variable{X:Cx}{e:OV}{es:List OV}{te:TE}{t:TA}{pos:Pos}
theorem ig:PA X [] BZ:=fun _ _ _ _ H Q I h=>Calls.spliced_nil ⟨[],H,I,.nil,h⟩
theorem mF(ha:PE X e te)(hr:PA X es t)(hs:Pd (e::es) X.env=(false,Pf e X.env)::Pd es X.env:=by rfl):PA X (e::es) (oA te t):=by
  intro pos pins s σ H Q I h
  rw [hs]
  show Pc _ _ (spliced ((false,Pf e X.env)::Po pos (Pd es X.env))) _ _ s
  refine Calls.spliced_cons (cR (ha pins s σ H _ I h) fun u s1 ⟨x,H1,I1,r1,q1⟩=>?_)
  exact cR (hr pos pins s1 σ H1 _ I1 q1) fun us s2 ⟨xs,H2,I2,r2,q2⟩=>⟨x::xs,H2,I2,.cons r1 r2,q2⟩
def JL(t:TA):TE:=fun σ H Q=>t σ H fun xs H1=>xs.length≤Pk∧∀p,H1 p=none→Q (.ref p) (bE H1 p (.tup xs))
def JF(t:TA):TE:=fun σ H Q=>t σ H fun xs H1=>xs.length≤Pk∧∀p,H1 p=none→Q (.ref p) (bE H1 p (.lst xs))
theorem A0{x1}(h:PA X es t):PE X (.Tuple es x1 pos) (JL t):=by
  intro pins s σ H Q I hq
  refine wpAny_Tuple_spliced (cR (h pos pins s σ H _ I hq) fun us s1 ⟨xs,H1,I1,r,z,q⟩=>⟨by rw [←r.length];exact z,?_⟩)
  have hf:H1 s1.heap.objs.size=none:=I1.hok.fresh (Pp _)
  refine⟨.ref s1.heap.objs.size,bE H1 s1.heap.objs.size (.tup xs),I1.laid (t':=s1.toks) (fun b u e=>PL _ e) (Pp _) ?_,rfl,q _ hf⟩
  exact⟨z,us,r,⟨_,Qm _ rfl,rfl,_,rfl,rfl⟩⟩
theorem wZ(h:PA X es t):PE X (.List es pos) (JF t):=by
  intro pins s σ H Q I hq
  refine wpAny_List_spliced (cR (h pos pins s σ H _ I hq) fun us s1 ⟨xs,H1,I1,r,z,q⟩=>⟨by rw [←r.length];exact z,?_⟩)
  have hf:H1 s1.heap.objs.size=none:=I1.hok.fresh (Pp _)
  refine⟨.ref s1.heap.objs.size,bE H1 s1.heap.objs.size (.lst xs),I1.laid (t':=s1.toks) (fun b u e=>PL _ e) (Pp _) ?_,rfl,q _ hf⟩
  exact⟨z,us,0,r,Qm _ rfl⟩
end
abbrev Sp:=List V→Hp→VK→XK→Prop
abbrev uv:=List Env→Hp→OS→XK→OR→OS→Prop
structure vX (P:OZ) (w:OW) (K:OU) (mg:Str→Option OR) (base:OY) (A:Pb) (outer:List Env) (s:OS) (H:Hp):Prop where
  frames:A.frames=some outer
  mod:Mod K mg base
  bs:∀b o,base.get? b=some o→s.heap.get? b=some o∧H b=none
  bsz:base.objs.size≤s.heap.objs.size
  funs:s.heap.FunFrames base outer
  frf:∀b∈z3 outer,H b=none
  hok:oF P w H s.heap
  bare:AllBare s.gens
def CE(outer:List Env)(P:OZ)(w:OW)(H:Hp)(s:OS)(Q:VK)(u:OR)(s':OS):Prop:=
  ∃v H',s'.os=s.os∧AllBare s'.gens∧Un (z3 outer) [] H H' s.heap s'.heap∧oF P w H' s'.heap∧bL v u∧Q v H'
def CR(CX:uv)(outer:List Env)(P:OZ)(w:OW)(H:Hp)(s:OS)(Q:VK)(E:XK)(r:Result)(s':OS):Prop:=
  match r with
  | .ok (.ret u)=>CE outer P w H s Q u s'
  | .ok _=>False
  | .error e=>CX outer H s E e s'
structure aF (P:OZ) (w:OW) (K:OU) (mg:Str→Option OR) (base:OY) (CX:uv) (k:Nat) (f:xM) (fd:Pj) (ps:List Str) (sp:Sp):Prop where
  len:∀vs H Q E,sp vs H Q E→vs.length=ps.length
  run:∀(A:Pb) (outer:List Env) (s:OS) (H:Hp) (args:Args) (us:List OR) (vs:List V) (Q:VK) (E:XK),bG k A→vX P w K mg base A outer s H→BindsTo s fd args (ps.zip us)→aV vs us→sp vs H Q E→
    codeAny (Pe P w) A (.call (.ref f) args) (CR CX outer P w H s Q E) s
theorem aF.mono{P:OZ}{w:OW}{K:OU}{mg:Str→Option OR}{base:OY}{CX:uv}{j k:Nat}{f:xM}{fd:Pj}{ps:List Str}{sp:Sp}(F:aF P w K mg base CX j f fd ps sp)(h:j≤k):
    aF P w K mg base CX k f fd ps sp:=⟨F.len,fun A outer s H args us vs Q E hr=>F.run A outer s H args us vs Q E (hr.mono h)⟩
theorem aF.imp{P:OZ}{w:OW}{K:OU}{mg:Str→Option OR}{base:OY}{CX:uv}{k:Nat}{f:xM}{fd:Pj}{ps:List Str}{sp sp':Sp}(F:aF P w K mg base CX k f fd ps sp)
    (h:∀vs H Q E,sp' vs H Q E→sp vs H Q E):aF P w K mg base CX k f fd ps sp':=
  ⟨fun vs H Q E q=>F.len vs H Q E (h _ _ _ _ q),fun A outer s H args us vs Q E hr he hb hv hs=>F.run A outer s H args us vs Q E hr he hb hv (h _ _ _ _ hs)⟩
theorem vX.make{P:OZ}{w:OW}{K:OU}{mg:Str→Option OR}{base:OY}{A:Pb}{outer:List Env}{s:OS}{H:Hp}(e:vX P w K mg base A outer s H)(C:xM)(us:List OR)(kw:List (Str × OR)):
    vX P w K mg base (A.under (.builtin "type.__call__" ⟨.ref C::us,kw⟩)) outer s H:=⟨by first | exact e.frames | (simpa [Su,Code.envs,Code.isFrame,pushEnvs] using e.frames),e.mod,e.bs,e.bsz,e.funs,e.frf,e.hok,e.bare⟩
section
variable{X:Cx}{pins:List (xM × Obj)}{σ:St}{H:Hp}{s s':OS}
theorem aM.env0(I:aM X pins σ H s):vX X.prog X.w X.K X.mg X.base X.A X.stack s H:=
  ⟨I.ok.frames,I.ok.mod,I.bs,PK I.ok.bsz I.sz,I.stack,I.stkFree,I.hok,I.bare⟩
theorem aM.after{Q:VK}{u:OR}(I:aM X pins σ H s)(h:CE X.stack X.prog X.w H s Q u s'):EP X pins σ Q u s':=by
  obtain⟨v,H',os,bare,un,hok,r,q⟩:=h
  obtain⟨hh,g,d,t,os'⟩:=s'
  obtain rfl:os'=s.os:=os
  exact⟨v,H',I.call (h':=hh) (g':=g) (d':=d) (t':=t) (ch:=[]) un hok bare (fun b z=>absurd z (by simp)),r,q⟩
end
def qL(sp:Sp)(dvs:List V)(E:XK)(t:TA):TE:=fun σ H Q=>t σ H fun vs H1=>sp (vs++dvs) H1 Q E
def yp(C:xM)(m:Str)(sp:Sp)(dvs:List V)(E:XK)(ta:TE)(t:TA):TE:=fun σ H Q=>ta σ H fun x H1=>∃a dx fs,x=.ref a∧H1 a=some (.ins C dx fs)∧fs.lookup m=none∧
  t σ H1 fun vs H2=>sp (x::(vs++dvs)) H2 Q E
def JG(C:xM)(sp:Sp)(dvs:List V)(E:XK)(t:TA):TE:=fun σ H Q=>t σ H fun vs H1=>∀x dx,H1 x=none→H1 dx=none→dx≠x→
  sp (.ref x::(vs++dvs)) (bE (bE H1 dx (.own x)) x (.ins C dx [])) (fun v H2=>v=.non∧Q (.ref x) H2) E
def cS(K:OU)(fd:Pj)(ps:List Str)(ds:List OR):Prop:=
  ∀(s:OS) (us:List OR),K.In s.heap→(us++ds).length=ps.length→BindsTo s fd ⟨us,[]⟩ (ps.zip (us++ds))
theorem cS.all{K:OU}{fd:Pj}{ps:List Str}(h:∀us:List OR,us.length=ps.length→bindArgs fd ⟨us,[]⟩=pure (ps.zip us)):cS K fd ps []:=fun s us _ hl=>by
  rw [Qo] at hl ⊢
  exact .of_eq (h us hl)
def lm(CX:uv)(X:Cx)(E:XK):Prop:=∀(pins:List (xM × Obj)) (σ:St) (H:Hp) (s:OS) (e:OR) (s':OS),aM X pins σ H s→CX X.stack H s E e s'→X.xe e s'
section
variable{X:Cx}{CX:uv}{k:Nat}{f C:xM}{fd:Pj}{ps:List Str}{sp:Sp}{dvs:List V}{ds:List OR}{E:XK}{x m:Str}{p pos apos:Pos}{e o:OV}{es:List OV}{ta:TE}{t:TA}
theorem ua{pins:List (xM × Obj)}{σ:St}{H:Hp}{s:OS}{Q:VK}{us:List OR}{vs:List V}(F:aF X.prog X.w X.K X.mg X.base CX k f fd ps sp)(hr:bG k X.A)(hb:cS X.K fd ps ds)(hd:aV dvs ds)(hx:lm CX X E)
    (I:aM X pins σ H s)(r:aV vs us)(h:sp (vs++dvs) H Q E):Pc (Pe X.prog X.w) X.A (call (.ref f) us) (EP X pins σ Q) X.xe s:=by
  have r2:aV (vs++dvs) (us++ds):=r.append hd
  have hl:(us++ds).length=ps.length:=by rw [←r2.length];exact F.len _ _ _ _ h
  refine wpAny_call (codeAny_mono (F.run X.A X.stack s H ⟨us,[]⟩ (us++ds) (vs++dvs) Q E hr I.env0 (hb s us I.kIn hl) r2 h) fun r s' hq=>?_)
  cases r with
  | error e=>exact hx pins σ H s e s' I hq
  | ok fl=>
    cases fl with
    | ret u=>exact I.after hq
    | next=>exact Qw hq
    | brk=>exact Qw hq
    | cont=>exact Qw hq
theorem Dw(F:aF X.prog X.w X.K X.mg X.base CX k f fd ps sp)(hr:bG k X.A)(hg:Gl X x)(hm:X.mg x=some (.ref f))(hk:Rh X.K (.ref f)=true)(hb:cS X.K fd ps ds)(hd:aV dvs ds)(hx:lm CX X E)
    (ha:PA X (e::es) t)(hdb:(x==("__debug__":Str))=false:=by decide)(he:Pd (e::es) X.env=(false,Pf e X.env)::Pd es X.env:=by rfl)(hpl:(Po pos (Pd es X.env)).any (·.1)=false:=by rfl):
    PE X (.Call (.Name x p) (e::es) [] pos) (qL sp dvs E t):=by
  intro pins s σ H Q I h
  refine RY (mv I hg hm ?_ hdb)
  refine Sx (h₀:=X.base) I.ok.mod.kin hk (cR (ha pos pins s σ H _ I h) fun us s1 ⟨vs,H1,I1,r,q⟩=>⟨I1.kIn,?_⟩) he hpl
  exact ua F hr hb hd hx I1 r q
theorem xZ{pl:Sem Bool}(he:PE X o ta)(c:oT X.K C)(hm:kU X.K C m f)(F:aF X.prog X.w X.K X.mg X.base CX k f fd ps sp)(hr:bG k X.A)(hb:cS X.K fd ps ds)(hd:aV dvs ds)(hx:lm CX X E)(ha:PA X (e::es) t)
    (hst:Pd (e::es) X.env=(false,Pf e X.env)::Pd es X.env:=by rfl)(hpl:(Po pos (Pd es X.env)).any (·.1)=false:=by rfl)
    (ht:Pf (.Call (.Attribute o m apos) (e::es) [] pos) X.env=(do
      let ov ←Pf o X.env
      standAt apos.atName
      let (f,first) ←holding [ov] (RB ov m pl)
      callWith pos f first (Po pos (Pd (e::es) X.env)) (QL pos (QM [] X.env))):=by rfl):
    PE X (.Call (.Attribute o m apos) (e::es) [] pos) (yp C m sp dvs E ta t):=by
  intro pins s σ H Q I h
  refine PySem.W.methodCall_KW (pl:=pl) (cR (he pins s σ H _ I h) fun u s1 ⟨x,H1,I1,rx,a,dx,fs,ex,ea,l,q⟩=>?_) ht
  subst ex
  obtain rfl:u=Value.ref a:=rx
  refine pS I1 ea c hm l ?_
  refine Sx (first:=[.ref a]) (h₀:=X.base) I.ok.mod.kin hm.kp (cR (ha pos pins s1 σ H1 _ I1 q) fun us s2 ⟨vs,H2,I2,r,q2⟩=>⟨I2.kIn,?_⟩) hst hpl
  exact ua (us:=.ref a::us) (vs:=.ref a::vs) F hr hb hd hx I2 (.cons rfl r) q2
theorem AY{pl:Sem Bool}(he:PE X o ta)(c:oT X.K C)(hm:kU X.K C m f)(F:aF X.prog X.w X.K X.mg X.base CX k f fd ps sp)(hr:bG k X.A)(hb:cS X.K fd ps ds)(hd:aV dvs ds)(hx:lm CX X E)
    (ht:Pf (.Call (.Attribute o m apos) [] [] pos) X.env=(do
      let ov ←Pf o X.env
      standAt apos.atName
      let (f,first) ←holding [ov] (RB ov m pl)
      callWith pos f first (Po pos (Pd [] X.env)) (QL pos (QM [] X.env))):=by rfl):
    PE X (.Call (.Attribute o m apos) [] [] pos) (yp C m sp dvs E ta BZ):=by
  intro pins s σ H Q I h
  refine PySem.W.methodCall_KW (pl:=pl) (cR (he pins s σ H _ I h) fun u s1 ⟨x,H1,I1,rx,a,dx,fs,ex,ea,l,q⟩=>?_) ht
  subst ex
  obtain rfl:u=Value.ref a:=rx
  refine pS I1 ea c hm l ?_
  exact PySem.W.callWith_K0 (first:=[.ref a]) I1.kIn hm.kp (ua (us:=[.ref a]) (vs:=[.ref a]) F hr hb hd hx I1 (.cons rfl .nil) q)
structure Mk (K:OU) (C f:xM):Prop where
  makes:PySem.W.makesIn K C=true
  init:Qx K (.ref C) "__init__"=some (some (.ref f))
  fn:PySem.W.isFn K (.ref f)=true
  kp:Rh K (.ref C)=true
theorem BH{pins:List (xM × Obj)}{σ:St}{H:Hp}{s:OS}{Q:VK}{us:List OR}{vs:List V}(M:Mk X.K C f)(F:aF X.prog X.w X.K X.mg X.base CX k f fd ps sp)(hr:bG (k+1) X.A)(hb:cS X.K fd ps ds)(hd:aV dvs ds)
    (hx:lm CX X E)(I:aM X pins σ H s)(r:aV vs us)
    (h:∀x dx,H x=none→H dx=none→dx≠x→sp (.ref x::(vs++dvs)) (bE (bE H dx (.own x)) x (.ins C dx [])) (fun v H2=>v=.non∧Q (.ref x) H2) E):
    Pc (Pe X.prog X.w) X.A (call (.ref C) us) (EP X pins σ Q) X.xe s:=by
  have hq:=h (s.heap.objs.size+1) s.heap.objs.size (I.hok.fresh (Nat.le_succ _)) (I.hok.fresh (Pp _)) (Qn (Nat.lt_succ_self _))
  have I2:=aM.made (C:=C) I
  have r2:aV (V.ref (s.heap.objs.size+1)::(vs++dvs)) (Value.ref (s.heap.objs.size+1)::(us++ds)):=.cons rfl (r.append hd)
  have hl:(Value.ref (s.heap.objs.size+1)::us++ds).length=ps.length:=by
    have e:=r2.length
    rw [F.len _ _ _ _ hq] at e
    exact e.symm
  refine wpAny_call (Ax (f:=f) I.kIn M.makes M.init (beq_iff_eq.mp M.fn) (codeAny_mono (F.run _ X.stack _ _ ⟨Value.ref (s.heap.objs.size+1)::us,[]⟩ (Value.ref (s.heap.objs.size+1)::(us++ds)) _ _ E (hr.make C us [])
    (I2.env0.make C us []) (hb _ (Value.ref (s.heap.objs.size+1)::us) I2.kIn hl) r2 hq) fun r s' hq'=>?_))
  cases r with
  | error e=>exact hx pins σ _ _ e s' I2 hq'
  | ok fl=>
    cases fl with
    | ret u=>
      obtain⟨v,H',I3,rv,ev,q3⟩:=I2.after hq'
      subst ev
      exact⟨rv,⟨V.ref (s.heap.objs.size+1),H',I3,rfl,q3⟩⟩
    | next=>exact Qw hq'
    | brk=>exact Qw hq'
    | cont=>exact Qw hq'
theorem Dz(M:Mk X.K C f)(F:aF X.prog X.w X.K X.mg X.base CX k f fd ps sp)(hr:bG (k+1) X.A)(hg:Gl X x)(hm:X.mg x=some (.ref C))(hb:cS X.K fd ps ds)(hd:aV dvs ds)(hx:lm CX X E)
    (ha:PA X (e::es) t)(hdb:(x==("__debug__":Str))=false:=by decide)(he:Pd (e::es) X.env=(false,Pf e X.env)::Pd es X.env:=by rfl)(hpl:(Po pos (Pd es X.env)).any (·.1)=false:=by rfl):
    PE X (.Call (.Name x p) (e::es) [] pos) (JG C sp dvs E t):=by
  intro pins s σ H Q I h
  refine RY (mv I hg hm ?_ hdb)
  refine Sx (h₀:=X.base) I.ok.mod.kin M.kp (cR (ha pos pins s σ H _ I h) fun us s1 ⟨vs,H1,I1,r,q⟩=>⟨I1.kIn,?_⟩) he hpl
  exact BH M F hr hb hd hx I1 r q
end
section
variable{X:Cx}{CX:uv}{k:Nat}{f C:xM}{fd:Pj}{ps ks:List Str}{sp:Sp}{E:XK}{x m:Str}{p pos apos kpos:Pos}{e o:OV}{es:List OV}{kws:List Qh}{te ta:TE}{t tk:TA}{nm:Option Str}
structure Kd (K:OU) (fd:Pj) (ps ks:List Str) (g:List OR→List OR→List OR) (gV:List V→List V→List V):Prop where
  to:∀(s:OS) (us ws:List OR),K.In s.heap→(g us ws).length=ps.length→BindsTo s fd ⟨us,ks.zip ws⟩ (ps.zip (g us ws))
  rel:∀{vs:List V} {us:List OR} {zs:List V} {ws:List OR},aV vs us→aV zs ws→aV (gV vs zs) (g us ws)
variable{g:List OR→List OR→List OR}{gV:List V→List V→List V}
end
structure aw (N P:List Str) (sc:Pz):Prop where
  kind:sc.kind=.function
  co:sc.isCoroutine=false
  gen:sc.isGenerator=false
  nd:N.Nodup
  pre:N.take P.length=P
  par:∀x∈P,sc.names.lookup x=some .local∨sc.names.lookup x=some .cell
  nofree:∀y∈sc.names,y.2≠.free
theorem rD{Qy:Str→Option Qi}{x:Str}:∀{binds:List (Str × OR)} {m:Str→Option OR},(∀v,(x,v)∉binds)→bindL Qy binds m x=m x
  | [],_,_=>rfl
  | (n,v)::r,m,h=>by
    unfold bindL
    rw [rD fun w hw=>h w (PP _ hw)]
    split
    · have:x≠n:=by rintro rfl;exact h v QT
      simp [this]
    · rfl
theorem rB{Qy:Str→Option Qi}{x:Str}:∀{binds:List (Str × OR)} {m:Str→Option OR},(∀v,(x,v)∉binds)→bindC Qy binds m x=m x
  | [],_,_=>rfl
  | (n,v)::r,m,h=>by
    unfold bindC
    rw [rB fun w hw=>h w (PP _ hw)]
    split
    · rfl
    · have:x≠n:=by rintro rfl;exact h v QT
      simp [this]
theorem rC{Qy:Str→Option Qi}{x:Str}{v:OR}:∀{P:List Str} {vs:List OR} {i:Nat} {m:Str→Option OR},P.Nodup→P[i]?=some x→vs[i]?=some v→Qy x=some .local→
    bindL Qy (P.zip vs) m x=some v
  | [],_,_,_,_,h,_,_=>by simp at h
  | _::_,[],_,_,_,_,h,_=>by simp at h
  | p::P,w::vs,0,m,nd,h1,h2,hk=>by
    simp at h1 h2;subst h1;subst h2
    show bindL Qy ((p,w)::P.zip vs) m p=_
    unfold bindL
    rw [rD fun v hv=>(Rj.mp nd).1 (List.of_mem_zip hv).1,if_pos hk]
    simp
  | p::P,w::vs,i+1,m,nd,h1,h2,hk=>by
    show bindL Qy ((p,w)::P.zip vs) m x=_
    unfold bindL
    exact rC (i:=i) (Rj.mp nd).2 (by simpa using h1) (by simpa using h2) hk
theorem rA{Qy:Str→Option Qi}{x:Str}{v:OR}:∀{P:List Str} {vs:List OR} {i:Nat} {m:Str→Option OR},P.Nodup→P[i]?=some x→vs[i]?=some v→Qy x≠some .local→
    bindC Qy (P.zip vs) m x=some v
  | [],_,_,_,_,h,_,_=>by simp at h
  | _::_,[],_,_,_,_,h,_=>by simp at h
  | p::P,w::vs,0,m,nd,h1,h2,hk=>by
    simp at h1 h2;subst h1;subst h2
    show bindC Qy ((p,w)::P.zip vs) m p=_
    unfold bindC
    rw [rB fun v hv=>(Rj.mp nd).1 (List.of_mem_zip hv).1,if_neg hk]
    simp
  | p::P,w::vs,i+1,m,nd,h1,h2,hk=>by
    show bindC Qy ((p,w)::P.zip vs) m x=_
    unfold bindC
    exact rA (i:=i) (Rj.mp nd).2 (by simpa using h1) (by simpa using h2) hk
def gG(N:List Str)(vs:List V):St:=vs.map some++Pi (N.length - vs.length) none
def tu(CX:uv)(P:OZ)(w:OW)(K:OU)(mg:Str→Option OR)(base:OY)(N:List Str)(qual:Str)(scope:Pz)(f:xM)(cd:OR)(A:Pb)(outer:List Env)(s:OS)(H:Hp)(E:XK):Cx where
  prog:=P
  w:=w
  K:=K
  mg:=mg
  base:=base
  A:=A.deeper (envOfC qual scope s.heap.objs.size f cd)
  N:=N
  s₀:=s
  H₀:=H
  env:=envOfC qual scope s.heap.objs.size f cd
  outer:=outer
  stack:=envOfC qual scope s.heap.objs.size f cd::outer
  ex:=[]
  calm:=true
  fn:=fun _=>true
  pn:=[]
  xe:=fun e s'=>Pc (Pe P w) (A.deeper (envOfC qual scope s.heap.objs.size f cd)) (leaving (envOfC qual scope s.heap.objs.size f cd) e) (fun _ s''=>CX outer H s E e s'') (fun e' s''=>CX outer H s E e' s'') s'
theorem uF{sc:Pz}{n:Nat}{x:Str}(h:sc.names.lookup x=some .cell):∃c,(PD n sc.names []).lookup x=some c:=by
  have q:=PySem.W.cellsFrom_some sc.names n [] (.inl h)
  exact Option.isSome_iff_exists.mp q
theorem yP{CX:uv}{P:OZ}{w:OW}{K:OU}{mg:Str→Option OR}{base:OY}{N ps:List Str}{qual:Str}{scope:Pz}{f:xM}{cd:OR}{A:Pb}{outer:List Env}{s s1:OS}{H:Hp}{E:XK}{us:List OR}{vs:List V}
    (S:aw N ps scope)(hd:A.handled=none)(e0:vX P w K mg base A outer s H)(hl:vs.length=ps.length)(r:aV vs us)
    (x:InCallC s s.heap.objs.size (bindL (envOfC qual scope s.heap.objs.size f cd).kindOf (ps.zip us) fun _=>none) (PD (s.heap.objs.size+1) scope.names []) (bindC (envOfC qual scope s.heap.objs.size f cd).kindOf (ps.zip us) fun _=>none) s1):
    aM (tu CX P w K mg base N qual scope f cd A outer s H E) [] (gG N vs) H s1:=by
  have hpl:ps.length≤N.length:=by have:=congrArg List.length S.pre;rw [List.length_take] at this;lia
  obtain⟨h1,tk,rfl,hk⟩:=x.done
  have noA:∀b:xM,b∉(tu CX P w K mg base N qual scope f cd A outer s H E).ex:=fun b z=>absurd (show b∈([]:List xM) from z) (by simp)
  refine⟨⟨e0.mod,S.kind,rfl,rfl,Pp _,fun y z c h1 h2=>?_,fun y hy=>?_,fun y c _ h=>?_,fun _=>hd,Around.frames_deeper e0.frames,.inr ⟨rfl,rfl⟩,fun b z=>absurd z (noA b),e0.bs,e0.bsz,fun b _ _=>noA b,fun b z=>absurd z (noA b),e0.funs,e0.frf⟩,
    rfl,e0.bare,Un.kept hk,⟨_,x.toInCall.ns,fun i y v h1 h2 h3=>?_⟩,fun y c h=>⟨_,x.cell y c h⟩,e0.hok.fresh (Pp _),fun y c h=>?_,fun p hp=>absurd (show p∈([]:List (xM × Obj)) from hp) (by simp),e0.hok.kept hk,?_⟩
  · exact name_of_addr x.apart (RZ h1) (RZ h2)
  · have hy:scope.names.lookup y=some .cell∨scope.names.lookup y=some .free:=hy
    rcases hy with hy | hy
    · exact uF hy
    · exact absurd rfl (S.nofree _ (RZ hy))
  · exact Rw (x.above y c (RZ h))
  · have hi:i < vs.length:=by
      unfold gG at h2
      by_cases hi:i < vs.length
      · exact hi
      · rw [List.getElem?_append_right (by simpa using hi)] at h2
        rw [Td] at h2
        split at h2<;>cases h2
    have ha:vs[i]?=some v:=by
      unfold gG at h2
      rw [QQ (by simpa using hi),PF] at h2
      cases e:vs[i]? with
      | none=>rw [e] at h2;cases h2
      | some a=>rw [e] at h2;cases h2;rfl
    obtain⟨u,hu,rv⟩:=r.get ha
    have hp:ps[i]?=some y:=by
      rw [←S.pre,List.getElem?_take_of_lt (by lia)];exact h1
    have ndP:ps.Nodup:=by rw [←S.pre];exact S.nd.sublist (List.take_sublist _ _)
    refine⟨u,rv,?_⟩
    rcases S.par y (OQ hp) with k | k
    · exact .inl ⟨k,rC ndP hp hu k⟩
    · obtain⟨c,e⟩:=uF (n:=s.heap.objs.size+1) k
      refine .inr ⟨.inl k,c,e,?_⟩
      have q:=x.cell y c e
      rw [rA ndP hp hu (by show scope.names.lookup y≠_;rw [k];decide)] at q
      exact q
  · exact e0.hok.fresh (Rw (x.above y c (RZ h)))
  · unfold gG
    show _=N.length
    rw [Sa,Px,Te]
    lia
theorem Ia{CX:uv}{P:OZ}{w:OW}{K:OU}{mg:Str→Option OR}{base:OY}{k:Nat}{f:xM}{name qual:Str}{params:Arguments}{body:List Pa}{scope:Pz}{dV kV doc pm cdv ct oc:OR}{an od:Option xM}
    {osl:Array (Option OR)}{N ps:List Str}{sp:Sp}(lk:K.lookup f=some ⟨oc,od,.func (Qu name qual params body scope dV kV doc pm an cdv ct),osl⟩)(hcd:Sb K cdv qual=true)(S:aw N ps scope)
    (len:∀vs H Q E,sp vs H Q E→vs.length=ps.length)
    (hbody:∀(A:Pb) (outer:List Env) (s:OS) (H:Hp) (vs:List V) (Q:VK) (E:XK),bG k (A.deeper (envOfC qual scope s.heap.objs.size f cdv))→sp vs H Q E→
      ∃t,jj (tu CX P w K mg base N qual scope f cdv A outer s H E) body t∧t {nx:=fun _ H'=>Q .non H',rt:=Q} (gG N vs) H):
    aF P w K mg base CX (k+1) f (Qu name qual params body scope dV kV doc pm an cdv ct) ps sp:=by
  refine⟨len,fun A outer s H args us vs Q E hr e0 hb r hsp=>?_⟩
  have hl:=len _ _ _ _ hsp
  have KX:K.In s.heap:=e0.mod.kin.keeps fun b o e=>(e0.bs b o e).1
  have lim:s.heap.NoLimit:=e0.mod.nolimit.keeps fun b o e=>(e0.bs b o e).1
  have hkind:∀y∈ps.zip us,scope.names.lookup y.1=some .local∨(scope.names.lookup y.1=some .cell∧((PD (s.heap.objs.size+1) scope.names []).lookup y.1).isSome=true):=fun⟨n,v⟩ hy=>by
    rcases S.par n (List.of_mem_zip hy).1 with q | q
    · exact .inl q
    · exact .inr ⟨q,PySem.W.cellsFrom_some _ _ _ (.inl q)⟩
  refine codeAny_call_function hr.depth (KX _ _ lk) rfl S.co S.gen rfl (PySem.W.codeRec_of KX hcd) (hb _ _ _ _ ?_)
  refine wpAny_newFunctionEnv_cells S.kind hkind fun env he s1 x=>?_
  subst he
  refine⟨lim.keeps x.toInCall.keep,codeAny_func ?_⟩
  obtain⟨t,ht,hq⟩:=hbody A outer s H vs Q E (hr.deeper _) hsp
  have I:aM (tu CX P w K mg base N qual scope f cdv A outer s H E) [] (gG N vs) H s1:=yP S hr.hd e0 hl r x
  refine Qv (ht [] s1 (gG N vs) H _ I hq) (fun fl s' hs=>?_) fun e s' hs=>hs
  have fin:∀{σ':St} {H':Hp} {v:V} {u:OR},aM (tu CX P w K mg base N qual scope f cdv A outer s H E) [] σ' H' s'→bL v u→Q v H'→CE outer P w H s Q u s':=
    fun{σ' H' v u} J rv q=>⟨v,H',J.os,J.bare,J.base,J.hok,rv,q⟩
  cases fl with
  | ret u=>
    obtain⟨v,σ',H',J,rv,q⟩:=hs
    exact fin J rv q
  | next=>
    obtain⟨σ',H',J,q⟩:=hs
    exact fin (v:=V.non) (u:=Value.none) J rfl q
  | brk=>
    obtain⟨_,_,_,q⟩:=hs
    exact Qw q
  | cont=>
    obtain⟨_,_,_,q⟩:=hs
    exact Qw q
section
variable{X:Cx}{x:Str}{p pos:Pos}{e:OV}{es:List OV}{t:TA}{id T:String}{r:List V→Hp→VK→Prop}
def J5(r:List V→Hp→VK→Prop)(t:TA):TE:=fun σ H Q=>t σ H fun vs H1=>r vs H1 Q
theorem qe(hc:dB X (.builtin id) r)(hg:Gl X x)(hm:X.mg x=none)(hv:QK x=some (.builtin id))(ha:PA X (e::es) t)(hn:x≠"__name__":=by decide)(hdb:(x==("__debug__":Str))=false:=by decide)
    (he:Pd (e::es) X.env=(false,Pf e X.env)::Pd es X.env:=by rfl)(hpl:(Po pos (Pd es X.env)).any (·.1)=false:=by rfl):PE X (.Call (.Name x p) (e::es) [] pos) (J5 r t):=by
  intro pins s σ H Q I h
  refine RY (tP I hg hm hv ?_ hn hdb)
  exact PyProof.Rows.callWith_builtin1 (cR (ha pos pins s σ H _ I h) fun us s1 ⟨vs,H1,I1,r1,q1⟩=>hc pins s1 σ H1 vs us Q I1 r1 q1) he hpl
theorem rY(hc:dB X (.type T) r)(hg:Gl X x)(hm:X.mg x=none)(hv:QK x=some (.type T))(ha:PA X (e::es) t)(hn:x≠"__name__":=by decide)(hdb:(x==("__debug__":Str))=false:=by decide)
    (he:Pd (e::es) X.env=(false,Pf e X.env)::Pd es X.env:=by rfl)(hpl:(Po pos (Pd es X.env)).any (·.1)=false:=by rfl):PE X (.Call (.Name x p) (e::es) [] pos) (J5 r t):=by
  intro pins s σ H Q I h
  refine RY (tP I hg hm hv ?_ hn hdb)
  exact Tx (cR (ha pos pins s σ H _ I h) fun us s1 ⟨vs,H1,I1,r1,q1⟩=>hc pins s1 σ H1 vs us Q I1 r1 q1) he hpl
end
end L2
namespace HT
open PySem PyProof.Rows
section
open PySem.SeqAt
open PySem.AutoSeq1 (wpAny_loadPart')
open PySem.MeetsSeq PySem.MeetsSeq2 PySem.MeetsSeq3
end
section
variable{prog:OZ}{w:OW}{A:Pb}{E:OR→OS→Prop}{s:OS}
theorem cat_tup{t b:xM}{vs ws:List OR}{Q:OR→OS→Prop}(ht:IsTup s.heap t vs.toArray)(hb:IsTup s.heap b ws.toArray)(hv:vs≠[])
    (h1:ws=[]→Q (.ref t) s)(h2:ws≠[]→Q (.ref s.heap.objs.size) {s with heap:=s.heap.push {cls:=.type "tuple",data:=.seq (vs++ws).toArray}})
    (hsz:vs.length+ws.length≤Pk):Pc (Pe prog w) A (PR .Add (.ref t) (.ref b)) Q E s:=by
  obtain⟨⟨cls,dd,data,sl⟩,ho,hc,n,hd⟩:=id ht
  obtain⟨⟨cls2,dd2,data2,sl2⟩,ho2,hc2,n2,hd2⟩:=id hb
  simp only at hc hd hc2 hd2
  subst hc hd hc2 hd2
  have e:vs.toArray++ws.toArray=(vs++ws).toArray:=by simp
  by_cases hw:ws=[]
  · exact concat_meets ⟨_,ho,rfl⟩ ⟨_,ho2,rfl⟩ noFill_tuple_add seq_tuple_add PySem.F.slot_tuple_add PySem.F.entry_tuple_add (PySem.F.args_tuple_add_2 _ _)
      (tuple_addW1 t b vs.toArray ws.toArray n n2 dd dd2 sl sl2 (by simpa using hv) (by simp [hw])) ⟨ho,ho2,h1 hw⟩
  · refine concat_meets ⟨_,ho,rfl⟩ ⟨_,ho2,rfl⟩ noFill_tuple_add seq_tuple_add PySem.F.slot_tuple_add PySem.F.entry_tuple_add (PySem.F.args_tuple_add_2 _ _)
      (tuple_addW2 t b vs.toArray ws.toArray n n2 dd dd2 sl sl2 (by simpa using hv) (by simpa using hw) (by rw [Py,Py];exact hsz)) ⟨ho,ho2,?_⟩
    rw [e]
    exact h2 hw
def sIx(n d:Nat):Option Int→Nat
  | none=>d
  | some v=>if v < 0 then(v+(n:Int)).toNat else min v.toNat n
theorem Hj(n d:Nat)(hd:d≤n)(o:Option Int):sIx n d o≤n:=by
  cases o with
  | none=>exact hd
  | some v=>
    show(if v < 0 then(v+(n:Int)).toNat else min v.toNat n)≤n
    by_cases hv:v < 0
    · rw [if_pos hv];lia
    · rw [if_neg hv];exact Nat.min_le_right _ _
theorem xO(v:Int)(n d:Nat):(if v < 0 then max (v+(n:Int)) 0 else min v (n:Int))=((sIx n d (some v):Nat):Int):=by
  show(if v < 0 then max (v+(n:Int)) 0 else min v (n:Int))=(((if v < 0 then(v+(n:Int)).toNat else min v.toNat n):Nat):Int)
  by_cases hv:v < 0
  · simp only [if_pos hv];lia
  · simp only [if_neg hv];lia
theorem v0(lo hi:Option Int)(n:Nat):Tf lo hi 1 (n:Int)=(((sIx n 0 lo:Nat):Int),((sIx n n hi:Nat):Int)):=by
  have h1:¬((1:Int) < 0):=by lia
  unfold Tf
  simp only [h1,if_false]
  refine Prod.ext ?_ ?_
  · cases lo with
    | none=>rfl
    | some v=>exact xO v n 0
  · cases hi with
    | none=>rfl
    | some v=>exact xO v n n
theorem xb(i j:Nat):Sy (i:Int) (j:Int) 1=j - i:=by
  unfold Sy
  have h1:(1:Int) > 0:=by lia
  simp only [h1,if_true,Int.ediv_one]
  split<;>lia
theorem qJ{v:OR}{o:Option Int}{Q:Option Int→OS→Prop}(p:IsPart v o)(h:Q o s):Pc (Pe prog w) A (Builtin.Slice.slicePartIndex v) Q E s:=by
  cases p with
  | none=>exact slicePart_none h
  | int i t=>exact slicePart_int h
theorem jd{sl:xM}{vl vu:OR}{lo hi:Option Int}{n:Nat}{Q:Int × Int × Nat→OS→Prop}(hs:s.heap.IsSliceOf sl vl vu .none)(pl:IsPart vl lo)(pu:IsPart vu hi)
    (h:Q (((sIx n 0 lo:Nat):Int),1,sIx n n hi - sIx n 0 lo) s):Pc (Pe prog w) A (Tz (.ref sl) (pure (n:Int))) Q E s:=by
  obtain⟨os,hos,hcs,hds⟩:=id hs
  unfold Tz Builtin.Slice.sliceFields
  refine Ph (Ph (wpAny_field hos hds (x:=vl) rfl (Ph (wpAny_field hos hds (x:=vu) rfl (Ph (wpAny_field hos hds (x:=.none) rfl (Pl ?_)))))))
  refine Ph (slicePart_none ?_)
  show Pc _ _ (if ((1:Int)==0)=true then _ else _) _ _ s
  rw [if_neg (by decide)]
  refine Ph (qJ pl (Ph (qJ pu (Ph (Pl ?_)))))
  show Pc _ _ (match Tf lo hi 1 (n:Int) with | (lo,hi)=>pure (lo,(1:Int),Sy lo hi 1)) _ _ s
  rw [v0 lo hi n]
  show Pc _ _ (pure (((sIx n 0 lo:Nat):Int),(1:Int),Sy ((sIx n 0 lo:Nat):Int) ((sIx n n hi:Nat):Int) 1)) _ _ s
  rw [xb]
  exact Pl h
theorem A6(xs:Array OR)(i k:Nat):((QS k).filterMap fun(m:Nat)=>xs[((i:Int)+(m:Int)*1).toNat]?).toArray=((xs.toList.drop i).take k).toArray:=by
  have e:(fun(m:Nat)=>xs[((i:Int)+(m:Int)*1).toNat]?)=fun m=>xs[i+m]?:=by
    funext m
    have:((i:Int)+(m:Int)*1).toNat=i+m:=by lia
    rw [this]
  rw [e]
  have:=pick_run xs i k
  rw [List.filterMap_map] at this
  have e2:((fun x=>xs[x]?) ∘ fun x=>i+x)=fun m=>xs[i+m]?:=rfl
  rw [e2] at this
  rw [this]
theorem getItem_tuple_cut{t sl:xM}{items:Array OR}{vl vu:OR}{lo hi:Option Int}{Q:OR→OS→Prop}(ht:IsTup s.heap t items)(hs:s.heap.IsSliceOf sl vl vu .none)(pl:IsPart vl lo)(pu:IsPart vu hi)
    (hw:¬(sIx items.size 0 lo=0∧sIx items.size items.size hi=items.size))
    (h:Q (.ref s.heap.objs.size) {s with heap:=s.heap.push {cls:=.type "tuple",data:=.seq ((items.toList.drop (sIx items.size 0 lo)).take (sIx items.size items.size hi - sIx items.size 0 lo)).toArray}})
    (hsz:items.size≤Pk):Pc (Pe prog w) A (getItem (.ref t) (.ref sl)) Q E s:=by
  have htake:sizeOk (.seq ((items.toList.drop (sIx items.size 0 lo)).take (sIx items.size items.size hi - sIx items.size 0 lo)).toArray):=by
    show((items.toList.drop (sIx items.size 0 lo)).take (sIx items.size items.size hi - sIx items.size 0 lo)).toArray.size≤Pk
    rw [Py,List.length_take,List.length_drop,SZ]
    lia
  have hj:sIx items.size items.size hi≤items.size:=Hj _ _ (Pp _) hi
  obtain⟨os,hos,hcs,hds⟩:=id hs
  have hTs:s.TypeIs (.ref sl) "slice":=⟨os,hos,hcs⟩
  unfold getItem
  try with_reducible refine wpAny_holding ?_
  first | refine Ph (Pl ?_) | skip
  refine Ph (wpAny_sequenceKey ht.typeIs (by decide) ?_)
  refine Ph (wpAny_callSpecial?_slot (name:=OX "__getitem__") ht.typeIs RC
    (wpAny_call_entry RC ht.typeIs entry_tuple_getitem ?_ (args_tuple_getitem _ _)))
  show Pc _ _ (TB (.ref t) >>= _) _ _ s
  refine Ph (tupleItemsOf_ ht ?_)
  refine Ph (wpAny_typeOf hTs ?_)
  rw [if_pos (by decide)]
  refine Ph (jd hs pl pu ?_)
  have hno:¬((((sIx items.size 0 lo:Nat):Int)==0&&(1:Int)==1&&(sIx items.size items.size hi - sIx items.size 0 lo)==items.size)=true):=by
    intro q
    rw [PV,PV] at q
    have q1:((sIx items.size 0 lo:Nat):Int)=0:=eq_of_beq q.1.1
    have q2:sIx items.size items.size hi - sIx items.size 0 lo=items.size:=eq_of_beq q.2
    exact hw ⟨by lia,by lia⟩
  show Pc _ _ (if (((sIx items.size 0 lo:Nat):Int)==0&&(1:Int)==1&&(sIx items.size items.size hi - sIx items.size 0 lo)==items.size)=true then _ else _) _ _ s
  rw [if_neg hno,A6]
  first
    | exact Ph (m:=RO _) (Rx (Pl ⟨_,rfl,Pl h⟩) htake)
    | exact Ph (m:=RO _) (Rx (Ph (Pl (Pl ⟨_,rfl,Pl h⟩))) htake)
    | exact Ph (Ph (m:=RO _) (Rx (Pl (Pl ⟨_,rfl,Pl h⟩)) htake))
    | exact Ph (Ph (m:=RO _) (Rx (Pl ⟨_,rfl,Pl h⟩) htake))
end
end HT
namespace L2
open PySem PySem.Spec PyProof.Rows
abbrev TO:=St→Hp→(Option Int→Hp→Prop)→Prop
def PO(X:Cx)(e:Option OV)(t:TO):Prop:=
  ∀(pins:List (xM × Obj)) (s:OS) (σ:St) (H:Hp) (Q:Option Int→Hp→Prop),aM X pins σ H s→t σ H Q→
    Pc (Pe X.prog X.w) X.A (evalPart e X.env) (fun u s'=>∃o H',aM X pins σ H' s'∧IsPart u o∧Q o H') X.xe s
def D6:TO:=fun _ H Q=>Q none H
def JJ(t:TE):TO:=fun σ H Q=>t σ H fun x H1=>∃i,x=.int i∧Q (some i) H1
theorem pW{ns:List Int}:∀{us:List OR},aV (ns.map V.int) us→QW us ns:=by
  induction ns with
  | nil=>intro us r;rw [Qc] at r;cases r;exact .nil
  | cons n ns ih=>
    intro us r
    rw [Pw] at r
    cases r with
    | cons r1 r2=>
      obtain⟨t,e⟩:=r1
      subst e
      exact .cons n t (ih r2)
section
variable{X:Cx}{e:OV}{te:TE}{lo hi:Option OV}{tl th:TO}{pos p2:Pos}
theorem DD:PO X none D6:=by
  intro pins s σ H Q I h
  rw [evalPart_none]
  exact Pl ⟨none,H,I,.none,h⟩
theorem DE(h:PE X e te):PO X (some e) (JJ te):=by
  intro pins s σ H Q I hw
  rw [evalPart_some]
  refine cR (h pins s σ H _ I hw) fun u s1 ⟨x,H1,I1,r1,q1⟩=>?_
  obtain⟨i,rfl,q⟩:=q1
  obtain⟨t,rfl⟩:=r1
  exact⟨some i,H1,I1,.int i t,q⟩
def Cc(X:Cx)(r:V→Option Int→Option Int→Hp→VK→Prop):Prop:=
  ∀(pins:List (xM × Obj)) (s:OS) (σ:St) (H:Hp) (x:V) (v vl vu:OR) (lo hi:Option Int) (sl:xM) (Q:VK),aM X pins σ H s→bL x v→s.heap.IsSliceOf sl vl vu .none→IsPart vl lo→IsPart vu hi→r x lo hi H Q→
    ∃T id,typeLookup (.type T) "__getitem__"=pure (some (.builtin id))∧s.TypeIs v T∧Pc (Pe X.prog X.w) X.A (getItem v (.ref sl)) (EP X pins σ Q) X.xe s
theorem Cc.or{r r':V→Option Int→Option Int→Hp→VK→Prop}(h:Cc X r)(h':Cc X r'):Cc X (fun x lo hi H Q=>r x lo hi H Q∨r' x lo hi H Q):=by
  intro pins s σ H x v vl vu lo hi sl Q I rx hs pl pu q
  rcases q with q | q
  · exact h pins s σ H x v vl vu lo hi sl Q I rx hs pl pu q
  · exact h' pins s σ H x v vl vu lo hi sl Q I rx hs pl pu q
def LY(r:V→Option Int→Option Int→Hp→VK→Prop)(te:TE)(tl th:TO):TE:=fun σ H Q=>te σ H fun x H1=>tl σ H1 fun l H2=>th σ H2 fun u H3=>r x l u H3 Q
theorem qf{r:V→Option Int→Option Int→Hp→VK→Prop}(hr:Cc X r)(he:PE X e te)(hl:PO X lo tl)(hu:PO X hi th):PE X (.Subscript e (.Slice lo hi none p2) pos) (LY r te tl th):=by
  intro pins s σ H Q I h
  refine Subscript_ (cR (he pins s σ H _ I h) fun v s1 ⟨x,H1,I1,r1,q1⟩=>?_)
  refine wpAny_Slice (cR (hl pins s1 σ H1 _ I1 q1) fun vl s2 ⟨l,H2,I2,pl,q2⟩=>cR (hu pins s2 σ H2 _ I2 q2) fun vu s3 ⟨u,H3,I3,pu,q3⟩=>?_)
  rw [evalPart_none]
  refine Pl ?_
  have I4:aM X pins σ H3 {s3 with heap:=s3.heap.push {cls:=.type "slice",data:=.fields #[vl,vu,.none]}}:=I3.kept (t':=s3.toks) fun b ob q=>PL _ q
  obtain⟨T,id,hT,ht,hg⟩:=hr pins {s3 with heap:=s3.heap.push {cls:=.type "slice",data:=.fields #[vl,vu,.none]}} σ H3 x v vl vu l u s3.heap.objs.size Q I4 r1 (Heap.IsSliceOf.new ..) pl pu q3
  show Pc (Pe X.prog X.w) X.A (subscriptTail e (.Slice lo hi none p2) v (.ref s3.heap.objs.size)) (EP X pins σ Q) X.xe {s3 with heap:=s3.heap.push {cls:=.type "slice",data:=.fields #[vl,vu,.none]}}
  exact tail_any (ops:=[.ref s3.heap.objs.size,v]) ht hT hg (by with_unfolding_all rfl)
def oH(xs:List V)(lo hi:Option Int):List V:=(xs.drop (HT.sIx xs.length 0 lo)).take (HT.sIx xs.length xs.length hi - HT.sIx xs.length 0 lo)
theorem nV(xs:List V)(lo hi:Option Int):(oH xs lo hi).length≤xs.length:=by
  unfold oH
  rw [List.length_take,List.length_drop]
  lia
def Jo(K:OU):V→Option Int→Option Int→Hp→VK→Prop:=fun x lo hi H Q=>∃a xs,x=.ref a∧eV K H a xs∧
  ¬(HT.sIx xs.length 0 lo=0∧HT.sIx xs.length xs.length hi=xs.length)∧∀p,H p=none→Q (.ref p) (bE H p (.tup (oH xs lo hi)))
theorem Hl:Cc X (Jo X.K):=by
  intro pins s σ H x v vl vu lo hi sl Q I rx hs pl pu h
  obtain⟨a,xs,rfl,hx,hw,q⟩:=h
  cases rx
  obtain⟨its,r,ht,hz⟩:=I.tuple hx
  have hlen:its.toArray.size=xs.length:=by rw [Py];exact r.length.symm
  refine⟨"tuple",_,RC.lookup,ht.typeIs,?_⟩
  refine HT.getItem_tuple_cut ht hs pl pu (by rw [hlen];exact hw) ?_ (by rw [hlen];exact hz)
  rw [hlen]
  refine⟨.ref s.heap.objs.size,_,I.laid (t':=s.toks) (o:=.tup (oH xs lo hi)) (fun b ob q=>PL _ q) (Pp _) ?_,rfl,q _ (I.hok.fresh (Pp _))⟩
  exact⟨PK (nV xs lo hi) hz,_,(r.drop (HT.sIx xs.length 0 lo)).take (HT.sIx xs.length xs.length hi - HT.sIx xs.length 0 lo),sO.new _ _⟩
def Jh(K:OU):R2:=fun x y H Q=>∃a b xs ys,x=.ref a∧y=.ref b∧eV K H a xs∧eV K H b ys∧xs≠[]∧xs.length+ys.length≤Pk∧
  (ys=[]→Q (.ref a) H)∧(ys≠[]→∀p,H p=none→Q (.ref p) (bE H p (.tup (xs++ys))))
theorem aV.nil_iff{xs:List V}{us:List OR}(r:aV xs us):us=[]↔ xs=[]:=by
  cases r with
  | nil=>simp
  | cons _ _=>simp
theorem Dn:iC X (PR .Add) (Jh X.K):=by
  intro pins s σ H x y v u Q I rx ry h
  obtain⟨a,b,xs,ys,rfl,rfl,ha,hb,hx,hz,q1,q2⟩:=h
  cases rx
  cases ry
  obtain⟨its,r1,p1,_⟩:=I.tuple ha
  obtain⟨its2,r2,p2,_⟩:=I.tuple hb
  refine HT.cat_tup p1 p2 (fun z=>hx (r1.nil_iff.mp z)) (fun z=>⟨.ref a,H,I,rfl,q1 (r2.nil_iff.mp z)⟩) (fun z=>?_) (by rw [←r1.length,←r2.length];exact hz)
  refine⟨.ref s.heap.objs.size,_,I.laid (t':=s.toks) (o:=.tup (xs++ys)) (fun b ob q=>PL _ q) (Pp _) ?_,rfl,q2 (fun w=>z (r2.nil_iff.mpr w)) _ (I.hok.fresh (Pp _))⟩
  exact⟨by rw [Sa];exact hz,_,r1.append r2,sO.new _ _⟩
end
def IA(n:Nat)(i:Int):Option Nat:=if 0≤i then(if i < n then some i.toNat else none) else if -(n:Int)≤i then some (i+n).toNat else none
def atI{α:Type}(xs:List α)(i:Int):Option α:=(IA xs.length i).bind fun j=>xs[j]?
theorem CT{n:Nat}{i:Int}{j:Nat}(h:IA n i=some j):seqIndex? i n=some j∧j < n∧ -(n:Int)≤i∧i < n:=by
  unfold IA at h
  by_cases h0:0≤i
  · rw [if_pos h0] at h
    by_cases h1:i < n
    · rw [if_pos h1] at h
      have e:i.toNat=j:=Qq h
      exact⟨by rw [seqIndex_of h0 h1,e],by lia,by lia,h1⟩
    · rw [if_neg h1] at h;cases h
  · rw [if_neg h0] at h
    by_cases h1: -(n:Int)≤i
    · rw [if_pos h1] at h
      have e:(i+n).toNat=j:=Qq h
      exact⟨by rw [seqIndex_neg (by lia) h1,e],by lia,h1,by lia⟩
    · rw [if_neg h1] at h;cases h
theorem xF{α:Type}{xs:List α}{i:Int}{v:α}(h:atI xs i=some v):∃j,seqIndex? i xs.length=some j∧xs[j]?=some v∧j < xs.length∧ -(xs.length:Int)≤i∧i < xs.length:=by
  unfold atI at h
  cases e:IA xs.length i with
  | none=>rw [e] at h;cases h
  | some j=>
    rw [e] at h
    obtain⟨h1,h2,h3,h4⟩:=CT e
    exact⟨j,h1,h,h2,h3,h4⟩
def oU(b:OV):Prop:=∀o i,subscripted b false o i=operate [o,i] (getItem o i)
def Cq(X:Cx)(r:R2):Prop:=
  ∀(value slice:OV) (pins:List (xM × Obj)) (s:OS) (σ:St) (H:Hp) (x y:V) (v u:OR) (Q:VK),aM X pins σ H s→bL x v→bL y u→r x y H Q→
    subscripted slice false v u=operate [v,u] (getItem v u)→Pc (Pe X.prog X.w) X.A (subscriptTail value slice v u) (EP X pins σ Q) X.xe s
def Fe(X:Cx)(id:String)(r:V→List V→Hp→VK→Prop):Prop:=
  ∀(pins:List (xM × Obj)) (s:OS) (σ:St) (H:Hp) (x:V) (xs:List V) (v:OR) (us:List OR) (Q:VK),aM X pins σ H s→bL x v→aV xs us→r x xs H Q→
    Pc (Pe X.prog X.w) X.A (call (.builtin id) (v::us)) (EP X pins σ Q) X.xe s
section
variable{X:Cx}{a b:OV}{ta tb:TE}{pos:Pos}
theorem Cq.or{r r':R2}(h:Cq X r)(h':Cq X r'):Cq X (fun x y H Q=>r x y H Q∨r' x y H Q):=by
  intro value slice pins s σ H x y v u Q I rx ry q hs
  rcases q with q | q
  · exact h value slice pins s σ H x y v u Q I rx ry q hs
  · exact h' value slice pins s σ H x y v u Q I rx ry q hs
theorem EH{r:R2}(hr:Cq X r)(ha:PE X a ta)(hb:PE X b tb)(hs:oU b):PE X (.Subscript a b pos) (HL r ta tb):=by
  intro pins s σ H Q I h
  exact Subscript_ (Fm ha hb I h fun v u s2 x y H2 I2 rx ry q=>hr a b pins s2 σ H2 x y v u Q I2 rx ry q (hs _ _))
def Jk(K:OU):R2:=fun x y H Q=>∃p xs i v,x=.ref p∧y=.int i∧iN K H p xs∧atI xs i=some v∧Q v H
def Jl(K:OU):R2:=fun x y H Q=>∃p xs i v,x=.ref p∧y=.int i∧eV K H p xs∧atI xs i=some v∧Q v H
theorem CU:Cq X (Jk X.K):=by
  intro value slice pins s σ H x y v u Q I rx ry h hs
  obtain⟨p,xs,i,z,rfl,rfl,hq,he,q⟩:=h
  cases rx
  obtain⟨t,rfl⟩:=ry
  obtain⟨its,r,pl,hz⟩:=I.list hq
  obtain⟨j,h1,h2,h3,h4,h5⟩:=xF he
  obtain⟨w,ew,rw'⟩:=r.get h2
  have hl:=r.length
  have hn:=wJ
  have fin:EP X pins σ Q w s:=⟨z,H,I,rw',q⟩
  by_cases h0:0≤i
  · have hj:i.toNat=j:=by
      rw [seqIndex_of h0 h5] at h1
      exact Qq h1
    exact item_listR pl.isList h0 (by lia) (by rw [hj];simpa using ew) fin hs
  · have hj:(i+(its.toArray.size:Int)).toNat=j:=by
      rw [seqIndex_neg (by lia) h4] at h1
      rw [Py,←hl]
      exact Qq h1
    exact subscriptTail_builtinR (x:=w) pl.isList.typeIs slot_list_getitem.lookup
      (wpAny_getItem_list_neg (Q:=fun r s'=>r=w∧EP X pins σ Q r s') pl.isList (by lia) (by rw [Py]<;>lia) (by lia) (by rw [hj];simpa using ew) ⟨rfl,fin⟩) hs
theorem FL:Cq X (Jl X.K):=by
  intro value slice pins s σ H x y v u Q I rx ry h hs
  obtain⟨p,xs,i,z,rfl,rfl,hq,he,q⟩:=h
  cases rx
  obtain⟨t,rfl⟩:=ry
  obtain⟨its,r,pl,hz⟩:=I.tuple hq
  obtain⟨j,h1,h2,h3,h4,h5⟩:=xF he
  obtain⟨w,ew,rw'⟩:=r.get h2
  have hl:=r.length
  have hn:=wJ
  have fin:EP X pins σ Q w s:=⟨z,H,I,rw',q⟩
  exact subscriptTail_builtinR (x:=w) pl.typeIs RC.lookup
    (getItem_tuple (j:=j) (Q:=fun r s'=>r=w∧EP X pins σ Q r s') pl (by lia) (by lia) (by rw [Py,←hl];exact h1) (by simpa using ew) ⟨rfl,fin⟩) hs
theorem uf(lo hi:Option Int)(n:Nat):(RD lo hi none n).1=((HT.sIx n 0 lo:Nat):Int)∧(RD lo hi none n).2.1=((HT.sIx n n hi:Nat):Int)∧(RD lo hi none n).2.2=1:=by
  refine⟨?_,?_,rfl⟩
  · cases lo with
    | none=>simp [RD,HT.sIx]
    | some i=>
      simp only [RD,HT.sIx,Option.getD_none,show(1:Int) > 0 by decide,if_true]
      by_cases h:i < 0
      · simp only [h,if_true]<;>lia
      · simp only [h,if_false]<;>lia
  · cases hi with
    | none=>simp [RD,HT.sIx]
    | some i=>
      simp only [RD,HT.sIx,Option.getD_none,show(1:Int) > 0 by decide,if_true]
      by_cases h:i < 0
      · simp only [h,if_true]<;>lia
      · simp only [h,if_false]<;>lia
theorem rd(its:List OR)(lo hi:Option Int):slicePick its.toArray lo hi none=((its.drop (HT.sIx its.length 0 lo)).take (HT.sIx its.length its.length hi - HT.sIx its.length 0 lo)).toArray:=by
  obtain⟨h1,h2,h3⟩:=uf lo hi its.toArray.size
  unfold slicePick
  rw [h1,h2,h3]
  simp only [sliceRange_one,pick_run,Py]<;>rfl
def Jn(K:OU):V→Option Int→Option Int→Hp→VK→Prop:=fun x lo hi H Q=>∃a xs,x=.ref a∧iN K H a xs∧∀p,H p=none→Q (.ref p) (bE H p (.lst (oH xs lo hi)))
theorem DV:Cc X (Jn X.K):=by
  intro pins s σ H x v vl vu lo hi sl Q I rx hs pl pu h
  obtain⟨a,xs,rfl,hx,q⟩:=h
  cases rx
  obtain⟨its,r,ht,hz⟩:=I.list hx
  have hlen:=r.length
  refine⟨"list",_,slot_list_getitem.lookup,ht.isList.typeIs,?_⟩
  refine wpAny_getItem_list_slice ht.isList hs pl pu .none (by simp) ?_ (by rw [Py]<;>lia)
  rw [rd,←hlen]
  refine⟨.ref s.heap.objs.size,_,I.laid (t':=s.toks) (o:=.lst (oH xs lo hi)) (fun b ob q=>PL _ q) (Pp _) ?_,rfl,q _ (I.hok.fresh (Pp _))⟩
  exact⟨PK (nV xs lo hi) hz,_,0,(r.drop (HT.sIx xs.length 0 lo)).take (HT.sIx xs.length xs.length hi - HT.sIx xs.length 0 lo),Qm _ rfl⟩
def Ew:V→Bool
  | .non=>true
  | .bl _=>true
  | .int _=>true
  | .str _=>true
  | _=>false
theorem sX:dB X (.builtin "len") (fun xs H Q=>∃p ys,xs=[.ref p]∧(iN X.K H p ys∨eV X.K H p ys)∧Q (.int ys.length) H):=by
  intro pins s σ H xs us Q I r h
  obtain⟨p,ys,rfl,hq,q⟩:=h
  obtain⟨u,rfl,rx⟩:=sN r
  cases rx
  have hn:=wJ
  rcases hq with hq | hq
  · obtain⟨its,r',pl,hz⟩:=I.list hq
    have hlen:=r'.length
    exact Calls.call_len_list pl.isList (by simp only [Py]<;>lia) ⟨.int ys.length,H,I.tok _,⟨s.toks+1,by rw [Py,hlen]⟩,q⟩
  · obtain⟨its,r',pl,hz⟩:=I.tuple hq
    have hlen:=r'.length
    exact len_tuple pl (by simp only [Py]<;>lia) ⟨.int ys.length,H,I.tok _,⟨s.toks+1,by rw [Py,hlen]⟩,q⟩
theorem sY:dB X (.type "list") (fun xs H Q=>∃p ys,xs=[.ref p]∧(iN X.K H p ys∨eV X.K H p ys)∧∀l,H l=none→Q (.ref l) (bE H l (.lst ys))):=by
  intro pins s σ H xs us Q I r h
  obtain⟨p,ys,rfl,hq,q⟩:=h
  obtain⟨u,rfl,rx⟩:=sN r
  cases rx
  have fin:∀(its:List OR),aV ys its→ys.length≤Pk→∀(h':OY) (c':Nat),(∀b o',s.heap.get? b=some o'→h'.get? b=some o')→
      h'.get? s.heap.objs.size=some {cls:=.type "list",dict:=none,data:=.seq its.toArray c',slots:=#[]}→EP X pins σ Q (.ref s.heap.objs.size) {s with heap:=h'}:=fun its r' hz h' c' kp e=>
    ⟨.ref s.heap.objs.size,_,I.laid (t':=s.toks) kp (Pp _) (show gy X.prog X.w _ h' _ (.lst ys) from⟨hz,its,c',r',e⟩),rfl,q _ (I.hok.fresh (Pp _))⟩
  rcases hq with hq | hq
  · obtain⟨its,r',pl,hz⟩:=I.list hq
    have hlen:=r'.length
    obtain⟨o,ho,hc,n,hd⟩:=pl.isList
    exact call_list_seq p (.inl rfl) ho hc hd (fun h' c' kp e=>fin its r' hz h' c' kp e) (by simp only [Py]<;>lia)
  · obtain⟨its,r',pl,hz⟩:=I.tuple hq
    have hlen:=r'.length
    obtain⟨o,ho,hc,n,hd⟩:=pl
    exact call_list_seq p (.inr rfl) ho hc hd (fun h' c' kp e=>fin its r' hz h' c' kp e) (by simp only [Py]<;>lia)
theorem qT:dB X (.type "tuple") (fun xs H Q=>∃p ys,xs=[.ref p]∧((iN X.K H p ys∧∀l,H l=none→Q (.ref l) (bE H l (.tup ys)))∨(eV X.K H p ys∧Q (.ref p) H))):=by
  intro pins s σ H xs us Q I r h
  obtain⟨p,ys,rfl,h⟩:=h
  obtain⟨u,rfl,rx⟩:=sN r
  cases rx
  rcases h with ⟨hq,q⟩ | ⟨hq,q⟩
  · obtain⟨its,r',pl,hz⟩:=I.list hq
    have hlen:=r'.length
    refine call_tuple_list pl.isList (fun h' kp=>?_) (by simp only [Py]<;>lia)
    have I1:aM X pins σ H {s with heap:=h'}:=I.kept (t':=s.toks) kp
    have I2:aM X pins σ (bE H h'.objs.size (.tup ys)) {s with heap:=h'.push {cls:=.type "tuple",data:=.seq its.toArray}}:=
      I1.laid (t':=s.toks) (fun b o e=>PL _ e) (Pp _) (show gy X.prog X.w _ _ _ (.tup ys) from⟨hz,its,r',sO.new _ _⟩)
    exact⟨.ref h'.objs.size,_,I2,rfl,q _ (I1.hok.fresh (Pp _))⟩
  · obtain⟨its,r',pl,hz⟩:=I.tuple hq
    exact call_tuple_same pl ⟨.ref p,H,I,rfl,q⟩
def K5(K:OU)(T:String)(x:V)(H:Hp):Prop:=match x with
  | .str _=>T="str"
  | .int _=>T="int"
  | .ref p=>(T="list"∧∃xs,iN K H p xs)∨(T="tuple"∧∃o,K.lookup p=some o∧o.cls=.type "tuple"∧o.dict=none)∨
      (T="dict"∧((∃kvs,H p=some (.dK kvs))∨∃kvs,H p=some (.dT kvs)))∨(T="set"∧∃S n,H p=some (.set S n))
  | _=>False
theorem B6{pins:List (xM × Obj)}{σ:St}{H:Hp}{s:OS}{T:String}{x:V}{v:OR}(I:aM X pins σ H s)(r:bL x v)(ty:K5 X.K T x H):
    s.TypeIs v T∧∀a,v=.ref a→∃ob,s.heap.get? a=some ob∧ob.dict=none:=by
  cases x with
  | str z=>
    obtain⟨t,rfl⟩:=r
    cases (show T="str" from ty)
    exact⟨typeIs_str s z t,fun _ e=>nomatch e⟩
  | int i=>
    obtain⟨t,rfl⟩:=r
    cases (show T="int" from ty)
    exact⟨Sd s i t,fun _ e=>nomatch e⟩
  | ref p=>
    cases r
    rcases ty with ⟨rfl,xs,hq⟩ | ⟨rfl,o,hk,hc,hd⟩ | ⟨rfl,hk⟩ | ⟨rfl,S,n,hk⟩
    · obtain⟨its,_,pl,_⟩:=I.list hq
      refine⟨pl.isList.typeIs,fun a e=>?_⟩
      cases e
      obtain⟨o,n,e,c,hd,_⟩:=pl
      exact⟨o,e,hd⟩
    · refine⟨⟨o,I.kIn p o hk,hc⟩,fun a e=>?_⟩
      cases e
      exact⟨o,I.kIn _ o hk,hd⟩
    · have z:∃o,s.heap.get? p=some o∧o.ExactDict:=by
        rcases hk with ⟨kvs,hk⟩ | ⟨kvs,hk⟩
        · obtain⟨_,_,_,_,o,_,_,e,ex,_⟩:=I.hok p _ hk
          exact⟨o,e,ex⟩
        · obtain⟨_,_,_,_,o,_,_,e,ex,_⟩:=I.hok p _ hk
          exact⟨o,e,ex⟩
      obtain⟨o,e,ex⟩:=z
      refine⟨⟨o,e,ex.1⟩,fun a e2=>?_⟩
      cases e2
      exact⟨o,e,ex.2.1⟩
    · obtain⟨o,_,_,_,e,ex,_⟩:=I.hok p _ hk
      refine⟨⟨o,e,ex.1⟩,fun a e2=>?_⟩
      cases e2
      exact⟨o,e,ex.2.1⟩
  | _=>exact Qw ty
def KQ(K:OU)(T:String)(r:V→List V→Hp→VK→Prop)(to:TE):TE:=fun σ H Q=>to σ H fun x H1=>K5 K T x H1∧r x [] H1 Q
def Lm(K:OU)(T:String)(r:V→List V→Hp→VK→Prop)(to:TE)(t:TA):TE:=fun σ H Q=>to σ H fun x H1=>K5 K T x H1∧t σ H1 fun xs H2=>r x xs H2 Q
variable{o e:OV}{es:List OV}{to:TE}{t:TA}{name:Str}{apos cpos:Pos}{T id:String}{r:V→List V→Hp→VK→Prop}
theorem AW(pa:PlainAttrs T)(slot:Slot T name id)(hty:typeOf (.builtin id)=pure (.type "method_descriptor"))(hm:Fe X id r)(ho:PE X o to)
    (hbase:Qr o name X.env (Pf o X.env)=Pf o X.env:=by rfl)(hline:(apos.endLine==cpos.line)=true:=by rfl):PE X (.Call (.Attribute o name apos) [] [] cpos) (KQ X.K T r to):=by
  intro pins s σ H Q I h
  refine wpAny_Call_method0_late hbase hline (cR (ho pins s σ H _ I h) fun v s1 ⟨x,H1,I1,r1,ty,q1⟩=>?_)
  obtain⟨h1,h2⟩:=B6 I1 r1 ty
  exact⟨T,id,pa,slot,hty,h1,h2,Calls.callWith_builtin rfl (PySem.evalArgs_none (hm pins s1 σ H1 x [] v [] Q I1 r1 .nil q1))⟩
theorem AV(pa:PlainAttrs T)(slot:Slot T name id)(hty:typeOf (.builtin id)=pure (.type "method_descriptor"))(hm:Fe X id r)(ho:PE X o to)(ha:PA X (e::es) t)
    (hbase:Qr o name X.env (Pf o X.env)=Pf o X.env:=by rfl)
    (hfew:((Po cpos (Pd (e::es) X.env)).all (fun x=> !x.1)&&(QL cpos (QM [] X.env)).all (fun x=>x.1.isSome)
      &&decide ((e::es).length+([]:List Qh).length+(if ([]:List Qh).isEmpty then 0 else 1) < 30))=true:=by rfl)
    (hline:(apos.endLine==cpos.line)=true:=by rfl)(hs:Pd (e::es) X.env=(false,Pf e X.env)::Pd es X.env:=by rfl)(hplain:(Po cpos (Pd es X.env)).any (·.1)=false:=by rfl):
    PE X (.Call (.Attribute o name apos) (e::es) [] cpos) (Lm X.K T r to t):=by
  intro pins s σ H Q I h
  refine wpAny_Call_method_late hbase hfew hline rfl (cR (ho pins s σ H _ I h) fun v s1 ⟨x,H1,I1,r1,ty,q1⟩=>?_)
  obtain⟨h1,h2⟩:=B6 I1 r1 ty
  refine⟨T,id,pa,slot,hty,h1,h2,?_⟩
  have hA:=ha cpos pins s1 σ H1 _ I1 q1
  rw [hs] at hA ⊢
  refine Calls.callWith_builtin (by show(false || (Po cpos (Pd es X.env)).any (·.1))=false;rw [hplain]<;>rfl) (Calls.evalArgs_plain ?_)
  exact cR hA fun us s2 ⟨vs,H2,I2,r2,q2⟩=>hm pins s2 σ H2 x vs v us Q I2 r1 r2 q2
end
def JW(X:Cx)(id:String)(r:V→List V→Hp→VK→Prop):Prop:=
  ∀(pins:List (xM × Obj)) (s:OS) (σ:St) (H:Hp) (x:V) (xs:List V) (v:OR) (us:List OR) (Q:VK),aM X pins σ H s→bL x v→aV xs us→r x xs H Q→
    Pc (Pe X.prog X.w) X.A (call (.builtin id) (v::us)) (EP X pins σ Q) X.xe s
theorem aV.one:∀{x:V} {us:List OR},aV [x] us→∃u,us=[u]∧bL x u
  | _,_,.cons r .nil=>⟨_,rfl,r⟩
theorem aV.zero:∀{us:List OR},aV [] us→us=[]
  | _,.nil=>rfl
theorem aV.dropLast{xs:List V}{us:List OR}(h:aV xs us):aV xs.dropLast us.dropLast:=by
  induction h with
  | nil=>exact .nil
  | cons r t ih=>
    cases t with
    | nil=>exact .nil
    | cons q t'=>exact .cons r ih
theorem aV.eraseIdx:∀{xs:List V} {us:List OR} (i:Nat),aV xs us→aV (xs.eraseIdx i) (us.eraseIdx i)
  | _,_,_,.nil=>.nil
  | _,_,0,.cons _ t=>t
  | _,_,i+1,.cons r t=>.cons r (aV.eraseIdx i t)
theorem aV.rep{xs:List V}{us:List OR}(h:aV xs us):∀k:Nat,aV (Pi k xs).flatten (Pi k us).flatten
  | 0=>.nil
  | k+1=>by
    rw [Rk,Rk,SA,SA]
    exact aV.append h (aV.rep h k)
theorem wy{α:Type}(l:List α):l.eraseIdx (l.length - 1)=l.dropLast:=by
  induction l with
  | nil=>rfl
  | cons a r ih=>
    cases r with
    | nil=>rfl
    | cons b r=>
      have e:(a::b::r).length - 1=((b::r).length - 1)+1:=by
        have h1:(a::b::r).length=r.length+2:=rfl
        have h2:(b::r).length=r.length+1:=rfl
        lia
      rw [e,List.eraseIdx_cons_succ,ih]
      all_goals rfl
theorem rP{α:Type}:∀(l:List α) (i:Nat),(l.eraseIdx i).length≤l.length
  | [],_=>Pp _
  | _::_,0=>Nat.le_succ _
  | _::r,i+1=>Nat.succ_le_succ (rP r i)
theorem rL(its:List OR):∀(k:Nat) (acc:List OR),
    RP (fun x1 x2=>x1++x2) acc.toArray (Pi k its.toArray)=(acc++(Pi k its).flatten).toArray
  | 0,acc=>by simp
  | k+1,acc=>by
    have e:acc.toArray++its.toArray=(acc++its).toArray:=by simp
    have e2:(acc++its)++(Pi k its).flatten=acc++(Pi (k+1) its).flatten:=by
      rw [Rk,SA,List.append_assoc]
    rw [←e2,←rL its k (acc++its),←e,Rk,List.foldl_cons]
section
variable{X:Cx}{pins:List (xM × Obj)}{σ:St}{H:Hp}{s:OS}{l b:xM}{xs ys zs:List V}
theorem aM.lset{its its':List OR}{n:Nat}{f:Array OR→Array OR}{t':Nat}(I:aM X pins σ H s)(hH:H l=some (.lst xs))
    (e:s.heap.get? l=some {cls:=.type "list",data:=.seq its.toArray n})(hf:f its.toArray=its'.toArray)(hv:aV ys its')(hz:ys.length≤Pk):
    aM X pins σ (bE H l (.lst ys)) {s with heap:=s.heap.update l (RE f),toks:=t'}:=by
  have q:=PySem.IsL.update e f
  rw [hf] at q
  refine I.write (x:=l) (e:=l) (by rw [hH];exact trivial) (.inl rfl) (fun b' u hb hu=>(Heap.get?_update_other s.heap (RE f) (Pt hb)).trans hu) ⟨_,q⟩ ?_
  exact⟨hz,its',_,hv,q⟩
theorem aM.lnew{its:List OR}{t':Nat}(I:aM X pins σ H s)(hv:aV ys its)(hz:ys.length≤Pk):
    aM X pins σ (bE H s.heap.objs.size (.lst ys)) {s with heap:=s.heap.push {cls:=.type "list",data:=.seq its.toArray},toks:=t'}:=
  I.laid (fun _ _ q=>PL _ q) (Pp _) ⟨hz,its,0,hv,Qm _ rfl⟩
theorem aM.fresh(I:aM X pins σ H s):H s.heap.objs.size=none:=I.hok.fresh (Pp _)
theorem aM.lstM(I:aM X pins σ H s)(hH:H l=some (.lst xs)):xs.length≤Pk∧∃(its:List OR) (n:Nat),aV xs its∧xs.length=its.length∧s.heap.get? l=some {cls:=.type "list",data:=.seq its.toArray n}:=by
  obtain⟨z,its,n,r,e⟩:=I.hok l _ hH
  exact⟨z,its,n,r,r.length,e⟩
theorem AK{n:Nat}(h:n≤Pk):Tg n=false:=by
  unfold Tg
  exact decide_eq_false (by lia)
end
section
variable{X:Cx}
def yd:V→List V→Hp→VK→Prop:=fun x vs H Q=>∃l xs y,x=.ref l∧vs=[y]∧H l=some (.lst xs)∧xs.length < Pk∧Q .non (bE H l (.lst (xs++[y])))
theorem rW:JW X "list.append" yd:=by
  intro pins s σ H x vs v us Q I rx rv h
  obtain⟨l,xs,y,rfl,rfl,hH,hz,q⟩:=h
  cases rx
  obtain⟨u,rfl,ru⟩:=rv.one
  obtain⟨z,its,n,r,hl,e⟩:=I.lstM hH
  refine QE F.slot_list_append ⟨_,e,rfl⟩ F.entry_list_append (F.args_list_append_2 _ _) (PySem.list_append l its.toArray n u (by rw [Py];lia)) ⟨e,?_⟩
  refine⟨.non,_,I.lset (its':=its++[u]) hH e (by simp) (r.append (.cons ru .nil)) ?_,rfl,q⟩
  rw [Sa,List.length_singleton]
  lia
def Jm:V→List V→Hp→VK→Prop:=fun x vs H Q=>∃l xs y,x=.ref l∧vs=[]∧H l=some (.lst xs)∧xs[xs.length - 1]?=some y∧Q y (bE H l (.lst xs.dropLast))
theorem Gq:JW X "list.pop" Jm:=by
  intro pins s σ H x vs v us Q I rx rv h
  obtain⟨l,xs,y,rfl,rfl,hH,hy,q⟩:=h
  cases rx
  have hus:=rv.zero
  subst hus
  obtain⟨z,its,n,r,hl,e⟩:=I.lstM hH
  obtain⟨u,hu,ru⟩:=r.get hy
  have hy':its.toArray[its.toArray.size - 1]?=some u:=by
    show its.toArray[its.length - 1]?=some u
    rw [←Array.getElem?_toList,←hl]
    exact hu
  refine QE SB ⟨_,e,rfl⟩ F.entry_list_pop (F.args_list_pop_1 _) (MeetsSeq.list_pop_last l its.toArray n u hy' (by rw [Py];lia)) ⟨e,?_⟩
  refine⟨y,_,I.lset (its':=its.dropLast) hH e ?_ r.dropLast ?_,ru,q⟩
  · show its.toArray.eraseIdxIfInBounds (its.toArray.size - 1)=its.dropLast.toArray
    rw [Py,List.eraseIdxIfInBounds_toArray,wy]
  · rw [List.length_dropLast]
    lia
def By:V→List V→Hp→VK→Prop:=fun x vs H Q=>∃l xs i k y,x=.ref l∧vs=[.int i]∧H l=some (.lst xs)∧ -(2 ^ 63)≤i∧i < 2 ^ 63∧seqIndex? i xs.length=some k∧xs[k]?=some y∧Q y (bE H l (.lst (xs.eraseIdx k)))
theorem AA:JW X "list.pop" By:=by
  intro pins s σ H x vs v us Q I rx rv h
  obtain⟨l,xs,i,k,y,rfl,rfl,hH,h1,h2,hk,hy,q⟩:=h
  cases rx
  obtain⟨u,rfl,ru⟩:=rv.one
  obtain⟨t,rfl⟩:=ru
  obtain⟨z,its,n,r,hl,e⟩:=I.lstM hH
  obtain⟨w,hw,rw'⟩:=r.get hy
  refine QE SB ⟨_,e,rfl⟩ F.entry_list_pop (F.args_list_pop_2 _ _)
    (MeetsSeq.list_pop_at l its.toArray n i t k w (fitsIndex_both h1 h2) (by rw [Py,←hl];exact hk) (by rw [←Array.getElem?_toList];exact hw) (by rw [Py];lia)) ⟨e,?_⟩
  refine⟨y,_,I.lset (its':=its.eraseIdx k) hH e ?_ (r.eraseIdx k) ?_,rw',q⟩
  · show its.toArray.eraseIdxIfInBounds k=(its.eraseIdx k).toArray
    rw [List.eraseIdxIfInBounds_toArray]
  · have:=rP xs k
    lia
def Bw:V→List V→Hp→VK→Prop:=fun x vs H Q=>∃l xs,x=.ref l∧vs=[]∧H l=some (.lst xs)∧Q .non (bE H l (.lst []))
theorem Az:JW X "list.clear" Bw:=by
  intro pins s σ H x vs v us Q I rx rv h
  obtain⟨l,xs,rfl,rfl,hH,q⟩:=h
  cases rx
  have hus:=rv.zero
  subst hus
  obtain⟨z,its,n,r,hl,e⟩:=I.lstM hH
  refine QE F.slot_list_clear ⟨_,e,rfl⟩ F.entry_list_clear (F.args_list_clear_1 _) (AutoSeq1.list_clear_list_0 l its.toArray n (by rw [Py];lia)) ⟨e,?_⟩
  exact⟨.non,_,I.lset (its':=[]) (ys:=[]) hH e rfl .nil (QP _),rfl,q⟩
def G':R2:=fun x y H Q=>∃l b xs zs,x=.ref l∧y=.ref b∧H l=some (.lst xs)∧H b=some (.lst zs)∧xs.length+zs.length≤Pk∧∀p,H p=none→Q (.ref p) (bE H p (.lst (xs++zs)))
theorem GG:iC X (PR .Add) G':=by
  intro pins s σ H x y v u Q I rx ry h
  obtain⟨l,b,xs,zs,rfl,rfl,hH,hB,hz,q⟩:=h
  cases rx
  cases ry
  obtain⟨z,its,n,r,hl,e⟩:=I.lstM hH
  obtain⟨z2,its2,n2,r2,hl2,e2⟩:=I.lstM hB
  refine PySem.P.add_list e e2 ?_ (by rw [Py,Py];lia)
  have ea:its.toArray++its2.toArray=(its++its2).toArray:=by simp
  rw [ea]
  exact⟨.ref _,_,I.lnew (t':=s.toks) (r.append r2) (by rw [Sa];lia),rfl,q _ I.fresh⟩
def Hd:R2:=fun x y H Q=>∃l k xs,x=.ref l∧y=.int k∧H l=some (.lst xs)∧ -(2 ^ 63)≤k∧k < 2 ^ 63∧xs.length*k.toNat≤Pk∧
  ∀p,H p=none→Q (.ref p) (bE H p (.lst (Pi k.toNat xs).flatten))
theorem C3{α:Type}(xs:List α)(k:Nat):(Pi k xs).flatten.length=k*xs.length:=by
  induction k with
  | zero=>simp
  | succ k ih=>rw [Rk,SA,Sa,ih,Nat.succ_mul,Nat.add_comm]
theorem GP:iC X (PR .Mult) Hd:=by
  intro pins s σ H x y v u Q I rx ry h
  obtain⟨l,k,xs,rfl,rfl,hH,h1,h2,hz,q⟩:=h
  cases rx
  obtain⟨t,rfl⟩:=ry
  obtain⟨z,its,n,r,hl,e⟩:=I.lstM hH
  have hlen:its.toArray.size*k.toNat≤Pk:=by rw [Py,←hl];exact hz
  have hcap:¬its.toArray.size*k.toNat > (2 ^ 63 - 1) / 8:=by
    have:(Pk:Nat)≤(2 ^ 63 - 1) / 8:=by decide
    lia
  have hfit:¬(!Builtin.List.listFitsIndex k)=true:=by
    rw [fitsIndex_both h1 h2]
    exact Rz
  have hlong:¬Tg (its.toArray.size*k.toNat)=true:=by
    rw [AK hlen]
    exact Rz
  have hnew:RP (fun x1 x2=>x1++x2) #[] (Pi (if its.toArray.isEmpty=true then 0 else k.toNat) its.toArray)=(Pi k.toNat its).flatten.toArray:=by
    have f0:∀m:Nat,RP (fun x1 x2=>x1++x2) #[] (Pi m its.toArray)=(Pi m its).flatten.toArray:=fun m=>by
      have:=rL its m []
      rw [Qz] at this
      exact this
    rw [f0]
    cases its with
    | nil=>simp
    | cons a r'=>rw [if_neg (by simp)]
  refine wpAny_binaryOp_repeat_ref (T:="list") (U:="int") (by decide) ⟨_,e,rfl⟩ (fun s'=>Sd s' k t) noFill_list_mul F.fills_int_mul SD repeat_list F.slot_int_index.lookup
    (QE SD (Sd s k t) F.entry_int_rmul (F.args_int_rmul_2 _ _) (int___rmul___int_list k t l its.toArray n)
      ⟨e,rfl,⟨_,e,rfl⟩,QE F.slot_list_mul ⟨_,e,rfl⟩ F.entry_list_mul (F.args_list_mul_2 _ _) (AutoListH.list___mul___list_int_3 l its.toArray n k t hfit hcap hlong) ⟨e,?_⟩⟩)
  rw [hnew]
  exact⟨.ref _,_,I.lnew (t':=s.toks) (r.rep k.toNat) (by rw [C3,Nat.mul_comm];exact hz),rfl,q _ I.fresh⟩
end
section
variable{prog:OZ}{w:OW}{A:Pb}{E:OR→OS→Prop}{s:OS}
end
section
variable{X:Cx}
end
end L2
namespace Att
open PySem PySem.W PySem.Calls PyProof.Rows
theorem oI{P:Params}{h:OY}:∀(ns:List Int) (vs:List OR),WellAll P h vs (ns.map WData.int)→QW vs ns:=by
  intro ns
  induction ns with
  | nil=>
    intro vs w
    rw [Qc] at w
    cases w
    exact .nil
  | cons n ns ih=>
    intro vs w
    rw [Pw] at w
    cases w with
    | cons a b=>
      cases a
      exact .cons _ _ (ih _ b)
theorem zc{l:OpenLaw}{n:Nat}(hn:l.most=some n){P:Params}{h:OY}{args:List WData}{vals:List OR}
    (hpre:l.row.toRowW.claim.pre args=true)(hwl:WellAll P h vals args):
    ∃a vs ns,vals=[Value.ref a]∧args=[WData.list (ns.map WData.int)]∧h.get? a=some {cls:=.type "list",data:=.seq vs.toArray}∧QW vs ns∧ns.length≤n:=by
  have hsh:WShape.hasAll [] args [.list .int]=true:=(pre_splitW hpre).1
  have hc:l.pre.holds [] {args:=args}=true:=(pre_splitW hpre).2
  obtain⟨d,r,rfl,h1,h2⟩:=hasAllW_cons hsh
  obtain rfl:=hasAllW_nil h2
  obtain⟨xs,rfl,h3⟩:=hasW_list h1
  obtain⟨ns,rfl⟩:=items_int h3
  have hlen:ns.length≤n:=by
    unfold OpenLaw.pre at hc
    have h4:(WTm.not (.lt (.lit (.int (n:Int))) (.len (.arg 0)))).holds [] {args:=[.list (ns.map .int)]}=true:=by
      have h4:=(holds_andW hc).1
      rw [hn] at h4
      exact h4
    have h5:=condW_of h4 (w_not (w_lt w_lit (w_len_list (w_arg rfl))))
    rw [Px] at h5
    refine Nat.le_of_not_lt fun q=>?_
    have q':(n:Int) < ((ns.length:Nat):Int):=by lia
    first
      | (rw [decide_eq_true q'] at h5;exact absurd h5 (by decide))
      | (simp at h5;lia)
  cases hwl with
  | cons w1 w2=>
    cases w2
    cases w1 with
    | list ho hall=>exact⟨_,_,ns,rfl,rfl,ho,oI ns _ hall,hlen⟩
theorem y8(l:OpenLaw)(args:List WData):l.row.toRowW.claim.post args (.bool true) args=true:=
  postW_of (r:=l.row.toRowW) (X:=(true==true))
    (show WShape.has [] (.bool true) .bool=true by first | rfl | decide | simp [WShape.has,WShape.arms,WShape.armsAll])
    (show(WTm.eq .res (.lit (.bool true))).value [] {args:=args,res:=some (.bool true),after:=args}=some (.bool (true==true)) from w_eq_bool (w_res rfl) w_lit) rfl
theorem attach_call{l:OpenLaw}{n:Nat}{q:OZ}{loose:List Str}{XP:(Str→Option OR)→OY→Prop}{YP:OW→OY→Prop}{d:DefRec}
    (hn:l.most=some n)(hdf:d.params.defaults=[])
    (call:∀(w:OW) (s₀ s₁:OS) (mg mb:Str→Option OR) (fa:xM) (o:Obj) (pm cd doc:OR) (a:xM) (vs:List OR) (ns:List Int),
      Ground q loose [] XP w s₀ mg mb s₁.heap→YP w s₁.heap→
      s₁.heap.get? fa=some o→o.data=.func (docDef d.name d.params d.body d.scope pm cd doc)→s₁.heap.CodeRec cd d.name→mg d.name=some (.ref fa)→
      s₁.heap.get? a=some {cls:=.type "list",data:=.seq vs.toArray}→QW vs ns→ns.length≤n→s₁.gens=#[]→
      codeAny (Pe l.prog w) callerA (.call (.ref fa) ⟨[.ref a],[]⟩) (fun r s'=>r=.ok (.ret (.bool true))∧OldK s₁.heap s'.heap∧s'.os=s₁.os∧AllBare s'.gens) s₁):
    WalkO q loose XP YP l.row.toRowW d [] (fun f vs=>PySem.call f vs):=by
  intro w s₀ s₁ mg mb G Y fa o pm cd doc dV kV ho hd hcd hD hmg hg args vals as hpre hlay hrd hwl hlo
  obtain rfl:dV=.none:=Dflts.none hD hdf
  obtain rfl:kV=.none:=Dflts.noKw hD
  obtain⟨a,vs,ns,rfl,rfl,hobj,hints,hlen⟩:=zc hn hpre hwl
  refine enter_call (codeAny_mono (call w s₀ s₁ mg mb fa o pm cd doc a vs ns G Y ho (fd_plain hd) hcd hmg hobj hints hlen hg) fun r s' hq=>?_)
  obtain⟨rfl,h2,h3,h4⟩:=hq
  exact⟨.inl ⟨.bool true,.bool true,[],rfl,fun _=>rfl,.bool true,y8 l _,fun _=>⟨List.Pairwise.nil,fun _ hm=>(nomatch hm)⟩⟩,h2,h3,h4⟩
section
variable{prog:OZ}{w:OW}{A:Pb}{E:OR→OS→Prop}{s:OS}{K:Frag}
end
end Att
namespace L2
open PySem PySem.Spec PyProof.Rows
theorem nK:∀{vs:List OR} {ns:List Int},QW vs ns→aV (ns.map V.int) vs
  | _,_,.nil=>.nil
  | _,_,.cons n t h=>.cons ⟨t,rfl⟩ (nK h)
def Ff(H:Hp):Prop:=∀b,H b=none∨∃o xs,H b=some (.frz o (.lst xs))
theorem Ao{P:OZ}{w:OW}{K:OU}{mg mb:Str→Option OR}{CX:uv}{k:Nat}{fa a:xM}{fd:Pj}{x:Str}{sp:Sp}{s₁:OS}{vs:List OR}{ns:List Int}
    (KX:K.In s₁.heap)(hns:s₁.heap.Ns PB mg)(hb:s₁.heap.Ns builtinsNs mb)(hbb:∀x:Str,x≠"__name__"→mb x=QK x)(hlim:s₁.heap.NoLimit)(hg:s₁.gens=#[])
    (ha:s₁.heap.get? a=some {cls:=.type "list",data:=.seq vs.toArray})(hi:QW vs ns)(hl:ns.length≤Pk)(hr:bG k callerA)
    (F:∀base:OY,K.In base→base.Ns PB mg→aF P w K mg base CX k fa fd [x] sp)(hbind:∀(s:OS) (u:OR),BindsTo s fd ⟨[u],[]⟩ [(x,u)])
    (hsp:∀H:Hp,Ff H→iN K H a (ns.map V.int)→sp [.ref a] H (fun v _=>v=.bl true) fun _ _ _=>False)
    (hCX:∀H e s',CX [] H s₁ (fun _ _ _=>False) e s'→False):
    codeAny (Pe P w) callerA (.call (.ref fa) ⟨[.ref a],[]⟩) (fun r s'=>r=.ok (.ret (.bool true))∧OldK s₁.heap s'.heap∧s'.os=s₁.os∧AllBare s'.gens) s₁:=by
  have rv:=nK hi
  have lenV:=hi.length
  have core:∀H:Hp,Ff H→iN K H a (ns.map V.int)→oF P w H s₁.heap→(∀b,H b≠none→b=a)→(H a≠none→K.lookup a=none)→
      codeAny (Pe P w) callerA (.call (.ref fa) ⟨[.ref a],[]⟩) (fun r s'=>r=.ok (.ret (.bool true))∧OldK s₁.heap s'.heap∧s'.os=s₁.os∧AllBare s'.gens) s₁:=by
    intro H hO hS hok hA hK
    have base_of:∀{b:xM} {o:Obj},s₁.heap.get? b=some o→H b=none→(tH s₁.heap H).get? b=some o:=fun e n=>Ah e n
    have noA:∀{b:xM} {o:Obj} {es:Array Rq} {ep:Nat},s₁.heap.get? b=some o→o.data=.dict es ep→H b=none:=fun{b o es ep} e d=>by
      cases q:H b with
      | none=>rfl
      | some u=>
        have e':b=a:=hA b (by rw [q];simp)
        subst e'
        rw [ha] at e;cases e
        have d':Data.seq vs.toArray _=Data.dict es ep:=d
        cases d'
    have nsK:∀{b:xM} {m:Str→Option OR},s₁.heap.Ns b m→(tH s₁.heap H).Ns b m:=fun{b m} ⟨o,es,ep,e,d,r⟩=>⟨o,es,ep,base_of e (noA e d),d,r⟩
    have hKb:K.In (tH s₁.heap H):=fun b o e=>base_of (KX b o e) (by
      cases q:H b with
      | none=>rfl
      | some u=>
        have e':b=a:=hA b (by rw [q];simp)
        subst e'
        rw [hK (by rw [q];simp)] at e;cases e)
    have hM:Mod K mg (tH s₁.heap H):=⟨hKb,nsK hns,⟨mb,nsK hb,hbb⟩,let ⟨mc,h1,h2⟩:=hlim;⟨mc,nsK h1,h2⟩⟩
    have e0:vX P w K mg (tH s₁.heap H) callerA [] s₁ H:=⟨rfl,hM,fun b o e=>Dc e,Nat.le_of_eq (yO _ _),trivial,fun b hb=>absurd (show b∈([]:List xM) from hb) (by simp),hok,.of_eq hg⟩
    refine codeAny_mono ((F _ hKb (nsK hns)).run callerA [] s₁ H ⟨[.ref a],[]⟩ [.ref a] [.ref a] _ _ hr e0 (hbind s₁ (.ref a)) (.cons rfl .nil) (hsp H hO hS)) fun r s' h=>?_
    cases r with
    | error e=>exact(hCX H e s' h).elim
    | ok fl=>
      cases fl with
      | next=>exact Qw h
      | brk=>exact Qw h
      | cont=>exact Qw h
      | ret u=>
        obtain⟨v,H',os,bare,un,hok',r',q⟩:=h
        have q':v=.bl true:=q
        subst q'
        obtain rfl:u=Value.bool true:=r'
        refine⟨rfl,OldK.of_keep fun b o e=>?_,os,bare⟩
        cases q:H b with
        | none=>exact un.keep b o e q (by intro z;exact absurd (show b∈([]:List xM) from z) (by simp)) (by simp)
        | some u=>
          rcases hO b with z | ⟨ob,xs,z⟩
          · rw [q] at z;cases z
          · have z2:=un.frzs b ob _ z
            obtain⟨e1,_⟩:=hok b _ z
            obtain⟨e2,_⟩:=hok' b _ z2
            rw [e] at e1;cases e1
            exact e2
  cases hk:K.lookup a with
  | some o=>
    have e:=KX a o hk
    rw [ha] at e
    cases e
    refine core (fun _=>none) (fun _=>.inl rfl) (.inr ⟨_,vs.toArray,_,hk,rfl,rfl,rfl,by rw [Py,lenV];exact hl,by simpa using rv⟩) (fun b u z=>by have z':(none:Option HO)=some u:=z;cases z') (fun b z=>absurd rfl z) fun z=>absurd rfl z
  | none=>
    refine core (fun b=>if b=a then some (.frz {cls:=.type "list",data:=.seq vs.toArray} (.lst (ns.map V.int))) else none) (fun b=>?_) (.inl (.inr ⟨{cls:=.type "list",data:=.seq vs.toArray},if_pos rfl⟩)) (fun b u z=>?_) (fun b z=>?_) fun _=>hk
    · by_cases hb:b=a
      · exact .inr ⟨_,_,if_pos hb⟩
      · exact .inl (if_neg hb)
    · by_cases hb:b=a
      · have z':=(if_pos hb).symm.trans z
        cases z'
        subst hb
        exact⟨ha,by rw [Px];exact hl,vs,_,rv,ha⟩
      · have z':=(if_neg hb).symm.trans z
        cases z'
    · by_cases hb:b=a
      · exact hb
      · exact absurd (if_neg hb) z
theorem walk_of{l:PySem.W.OpenLaw}{n k:Nat}{q:OZ}{loose:List Str}{XP:(Str→Option OR)→OY→Prop}{YP:OW→OY→Prop}{d:DefRec}{K:Params→OU}{CX:OW→uv}{sp:OW→Sp}{x:Str}
    (hn:l.most=some n)(hn2:n≤Pk)(hdf:d.params.defaults=[])(hr:bG k callerA)
    (hY:∀(w:OW) (h:OY),YP w h→(K w.params).In h)
    (F:∀(w:OW) (mg:Str→Option OR) (fa:xM) (h:OY),(K w.params).In h→h.Ns PB mg→mg d.name=some (.ref fa)→
      ∃fd:Pj,(∀(s:OS) (u:OR),BindsTo s fd ⟨[u],[]⟩ [(x,u)])∧
        ∀base:OY,(K w.params).In base→base.Ns PB mg→aF l.prog w (K w.params) mg base (CX w) k fa fd [x] (sp w))
    (hsp:∀(w:OW) (H:Hp) (a:xM) (ns:List Int),ns.length≤n→Ff H→iN (K w.params) H a (ns.map V.int)→sp w [.ref a] H (fun v _=>v=.bl true) fun _ _ _=>False)
    (hCX:∀(w:OW) (H:Hp) (s:OS) (e:OR) (s':OS),CX w [] H s (fun _ _ _=>False) e s'→False):
    PySem.W.WalkO q loose XP YP l.row.toRowW d [] (fun f vs=>PySem.call f vs):=by
  refine Att.attach_call hn hdf fun w s₀ s₁ mg mb fa o pm cd doc a vs ns G Y ho hd hcd hmg hobj hints hlen hg=>?_
  have KX:=hY w _ Y
  obtain⟨fd,hb,hF⟩:=F w mg fa _ KX G.T.g hmg
  exact Ao KX G.T.g G.T.b G.T.builtins G.T.nolimit hg hobj hints (PK hlen hn2) hr hF hb (fun H hO hS=>hsp w H a ns hlen hO hS) fun H e s'=>hCX w H s₁ e s'
abbrev bS:uv:=fun _ _ _ _ _ _=>False
abbrev E0:XK:=fun _ _ _=>False
theorem rX{X:Cx}:lm bS X E0:=fun _ _ _ _ _ _ _ h=>h.elim
structure rh (K:OU) (x qual:Str) (st:Pa) (f:xM) (fd:Pj):Prop where
  ex:∃(oc:OR) (od:Option xM) (kV doc pm:OR) (an:Option xM) (cdv ct:OR) (osl:Array (Option OR)),
    fd=Qu x qual (dS st) (cm st) (ag st) .none kV doc pm an cdv ct∧K.lookup f=some ⟨oc,od,.func fd,osl⟩∧Sb K cdv qual=true
  kp:Rh K (.ref f)=true
section
variable{P:OZ}{w:OW}{K:OU}{mg:Str→Option OR}{base:OY}
theorem rh.ok{x qual:Str}{st:Pa}{f:xM}{fd:Pj}{N ps:List Str}{k:Nat}{sp:Sp}(F:rh K x qual st f fd)(S:aw N ps (ag st))(len:∀vs H Q E,sp vs H Q E→vs.length=ps.length)
    (hbody:∀(cdv:OR) (A:Pb) (outer:List Env) (s:OS) (H:Hp) (vs:List V) (Q:VK) (E:XK),bG k (A.deeper (envOfC qual (ag st) s.heap.objs.size f cdv))→sp vs H Q E→
      ∃t,jj (tu bS P w K mg base N qual (ag st) f cdv A outer s H E).nox (cm st) t∧t {nx:=fun _ H'=>Q .non H',rt:=Q} (gG N vs) H):aF P w K mg base bS (k+1) f fd ps sp:=by
  obtain⟨oc,od,kV,doc,pm,an,cdv,ct,osl,rfl,lk,hcd⟩:=F.ex
  refine Ia lk hcd S len fun A outer s H vs Q E hr hsp=>?_
  obtain⟨t,h,q⟩:=hbody cdv A outer s H vs Q E hr hsp
  exact⟨t,h.nox,q⟩
theorem rh.binds{x qual:Str}{st:Pa}{f:xM}{fd:Pj}{ps:List Str}(F:rh K x qual st f fd)
    (h:∀(kV doc pm:OR) (an:Option xM) (cdv ct:OR) (us:List OR),us.length=ps.length→bindArgs (Qu x qual (dS st) (cm st) (ag st) .none kV doc pm an cdv ct) ⟨us,[]⟩=pure (ps.zip us)):cS K fd ps []:=by
  obtain⟨oc,od,kV,doc,pm,an,cdv,ct,osl,rfl,lk,hcd⟩:=F.ex
  exact .all (h kV doc pm an cdv ct)
theorem lw{x qual:Str}{st:Pa}{f:xM}{oc:OR}{od an:Option xM}{osl:Array (Option OR)}{kV doc pm cdv ct:OR}(l:K.lookup f=some ⟨oc,od,.func (Qu x qual (dS st) (cm st) (ag st) .none kV doc pm an cdv ct),osl⟩)
    (c:Sb K cdv qual=true)(k:Rh K (.ref f)=true):rh K x qual st f (Qu x qual (dS st) (cm st) (ag st) .none kV doc pm an cdv ct):=⟨⟨oc,od,kV,doc,pm,an,cdv,ct,osl,rfl,l,c⟩,k⟩
end
theorem sv{n:Nat}(h:n≤1000):n < Pk:=Th h (by decide)
section
variable{X:Cx}
end
theorem Iy{A B:Prop}(h:B):if false=true then A else B:=by
  rw [if_neg Rz]
  exact h
theorem Iz{A B:Prop}(h:A):if true=true then A else B:=by
  rw [if_pos rfl]
  exact h
def aq(H H':Hp):Prop:=∀b o,H b=some o→H' b=some o
theorem aq.refl(H:Hp):aq H H:=fun _ _ h=>h
theorem aq.trans{H H1 H2:Hp}(a:aq H H1)(b:aq H1 H2):aq H H2:=fun c o h=>b c o (a c o h)
theorem aq.free{H H':Hp}(e:aq H H'){l:xM}(h:H' l=Option.none):H l=Option.none:=by
  cases q:H l with
  | none=>rfl
  | some o=>
    rw [e l o q] at h
    cases h
theorem aq.seq{K:OU}{H H':Hp}{a:xM}{xs:List V}(e:aq H H')(h:iN K H a xs):iN K H' a xs:=by
  rcases h with (h | ⟨o,h⟩) | h
  · exact .inl (.inl (e _ _ h))
  · exact .inl (.inr ⟨o,e _ _ h⟩)
  · exact .inr h
end L2
set_option maxHeartbeats 4000000
namespace L2
open PySem PySem.Spec PyProof.Rows
def Bt(n:Nat)(i:Int):Prop:=i.natAbs < 2 ^ n
theorem Bt.mono{m n:Nat}{i:Int}(h:Bt m i)(hm:m≤n):Bt n i:=Qa h (SE (by decide) hm)
theorem Bt.log{m:Nat}{i:Int}(h:Bt m i)(hm:0 < m):i.natAbs.log2 < m:=by
  unfold Bt at h
  rcases Nat.eq_zero_or_pos i.natAbs with h0 | hp
  · rw [h0];exact hm
  · exact(Nat.log2_lt (by lia)).mpr h
theorem Bt.bits{m:Nat}{i:Int}(h:Bt m i)(hm:0 < m):Builtin.Int.intBits i≤m:=by
  unfold Builtin.Int.intBits
  split
  · exact QP _
  · exact h.log hm
theorem Bt.of_le{m:Nat}{i:Int}{j:Int}(h:Bt m j)(e:i.natAbs≤j.natAbs):Bt m i:=Th e h
section
variable{X:Cx}
def Ei(i j:Int):Prop:=Bt 4000 i∧Bt 4000 j
theorem Dr:iC X (PR .Mult) (rI Ei fun i j=>.int (i*j)):=IT fun _ _ _ _ _ _ _ hc q=>
  mul_int q (.of_bits (PK (hc.1.bits (by decide)) (by decide)) (PK (hc.2.bits (by decide)) (by decide)))
def Eh(i j:Int):Prop:=j≠0∧Bt 8000 j
theorem AS:iC X (PR .FloorDiv) (rI Eh fun i j=>.int (i.fdiv j)):=IT fun _ _ _ _ _ _ _ hc q=>
  floordiv_int hc.1 q (.inl (PyProof.noPylong_of_log2 (Nat.lt_trans (hc.2.log (by decide)) (by decide))))
theorem GK:iC X (PZ .Is) (fun x y H Q=>∃b c,x=.bl b∧y=.bl c∧Q (.bl (b==c)) H):=by
  intro pins s σ H x y v u Q I rx ry h
  obtain⟨b,c,rfl,rfl,q⟩:=h
  cases rx;cases ry
  exact is_bool ⟨.bl _,H,I,rfl,q⟩
end
def nP(H H':Hp):Prop:=∀a o,H a=some o→(∀xs,o≠.lst xs)→(∀ob xs,o≠.frz ob (.lst xs))→H' a=some o
theorem nP.trans{H H1 H2:Hp}(a:nP H H1)(b:nP H1 H2):nP H H2:=fun c o h n m=>b c o (a c o h n m) n m
theorem aq.ts{H H':Hp}(h:aq H H'):nP H H':=fun a o e _ _=>h a o e
theorem nP.tup{K:OU}{H H':Hp}(h:nP H H'){a:xM}{xs:List V}(q:eV K H a xs):eV K H' a xs:=by
  rcases q with (q | ⟨o,q⟩) | q
  · exact .inl (.inl (h _ _ q (fun _ e=>nomatch e) (fun _ _ e=>nomatch e)))
  · exact .inl (.inr ⟨o,h _ _ q (fun _ e=>nomatch e) (fun _ _ e=>nomatch e)⟩)
  · exact .inr q
section
variable{X:Cx}
end
structure ee (K:OU) (mg:Str→Option OR) (x:Str) (st:Pa) (f:xM) (fd:Pj) (ps:List Str):Prop where
  F:rh K x x st f fd
  m:mg x=some (.ref f)
  b:cS K fd ps []
theorem FH{K:OU}{mg:Str→Option OR}{h:OY}{x:Str}{st:Pa}{f:xM}{ps:List Str}{oc:OR}{od an:Option xM}{osl:Array (Option OR)}{kV doc pm cdv ct:OR}(X:K.In h)(G:h.Ns PB mg)(a:QN K PB x=some (some (.ref f)))
    (l:K.lookup f=some ⟨oc,od,.func (Qu x x (dS st) (cm st) (ag st) .none kV doc pm an cdv ct),osl⟩)(c:Sb K cdv x=true)(k:Rh K (.ref f)=true)
    (hb:∀(kV doc pm:OR) (an:Option xM) (cdv ct:OR) (us:List OR),us.length=ps.length→bindArgs (Qu x x (dS st) (cm st) (ag st) .none kV doc pm an cdv ct) ⟨us,[]⟩=pure (ps.zip us)):
    ee K mg x st f (Qu x x (dS st) (cm st) (ag st) .none kV doc pm an cdv ct) ps:=⟨lw l c k,QX X G a,(lw l c k).binds hb⟩
theorem Dv{X:Cx}{x:Str}{st:Pa}{f:xM}{fd:Pj}{ps:List Str}{k:Nat}{sp:Sp}{e:OV}{es:List OV}{t:TA}{p pos:Pos}(h:ee X.K X.mg x st f fd ps)(G:aF X.prog X.w X.K X.mg X.base bS k f fd ps sp)(hr:bG k X.A)(ha:PA X (e::es) t)
    (hg:Gl X x:=by rfl)(hdb:(x==("__debug__":Str))=false:=by decide)(he:Pd (e::es) X.env=(false,Pf e X.env)::Pd es X.env:=by rfl)(hpl:(Po pos (Pd es X.env)).any (·.1)=false:=by rfl):
    PE X (.Call (.Name x p) (e::es) [] pos) (qL sp [] E0 t):=Dw G hr hg h.m h.F.kp h.b .nil rX ha hdb he hpl
theorem aq.new{H:Hp}{p:xM}{o:HO}(h:H p=none):aq H (bE H p o):=fun b u e=>by
  rw [ax (fg e h)];exact e
theorem aq.tup{K:OU}{H H':Hp}{a:xM}{xs:List V}(e:aq H H')(h:eV K H a xs):eV K H' a xs:=e.ts.tup h
def gq(t b:Int):Int × Int:=if b < 0 then(t.fdiv (-(Pq t b:Int)),b.fdiv (-(Pq t b:Int))) else(t.fdiv (Pq t b:Int),b.fdiv (Pq t b:Int))
theorem Ae(x y:Int):Pq y (x.fmod y)=Pq x y:=by
  rw [Int.fmod_def,Int.gcd_sub_mul_left_right,Int.gcd_comm]
theorem nY(x:Int){y:Int}(h:y≠0):(x.fmod y).natAbs < y.natAbs:=by
  rcases Int.lt_or_gt_of_ne h with h | h
  · have h1:x.fmod y= -((-x).fmod (-y)):=by
      have:=Int.neg_fmod_neg x y
      lia
    have h2:=Int.fmod_nonneg_of_pos (-x) (b:= -y) (by lia)
    have h3:=Int.fmod_lt_of_pos (-x) (b:= -y) (by lia)
    lia
  · have h2:=Int.fmod_nonneg_of_pos x h
    have h3:=Int.fmod_lt_of_pos x h
    lia
theorem xT{t b:Int}(h:b≠0):(0:Int) < Pq t b:=by
  have:=Int.gcd_pos_of_ne_zero_right t h
  lia
theorem rR{t b:Int}(h:b≠0):∃d:Int,d.natAbs=Pq t b∧d≠0∧(gq t b).1*d=t∧(gq t b).2*d=b∧0 < (gq t b).2:=by
  have hg:=xT (t:=t) h
  have d1:(Pq t b:Int) ∣ t:=Int.gcd_dvd_left ..
  have d2:(Pq t b:Int) ∣ b:=Int.gcd_dvd_right ..
  unfold gq
  split
  · rename_i hb
    have e1:t.fdiv (-(Pq t b:Int))*(-(Pq t b:Int))=t:=SF (Int.neg_dvd.mpr d1)
    have e2:b.fdiv (-(Pq t b:Int))*(-(Pq t b:Int))=b:=SF (Int.neg_dvd.mpr d2)
    refine⟨-(Pq t b:Int),by lia,by lia,e1,e2,?_⟩
    show 0 < b.fdiv (-(Pq t b:Int))
    have h3:b.fdiv (-(Pq t b:Int))*(Pq t b:Int)= -b:=by rw [Int.mul_neg] at e2;lia
    exact Int.pos_of_mul_pos_left (by lia) (by lia) (b:=(Pq t b:Int))
  · rename_i hb
    have e1:t.fdiv (Pq t b:Int)*(Pq t b:Int)=t:=SF d1
    have e2:b.fdiv (Pq t b:Int)*(Pq t b:Int)=b:=SF d2
    refine⟨(Pq t b:Int),by lia,by lia,e1,e2,?_⟩
    show 0 < b.fdiv (Pq t b:Int)
    exact Int.pos_of_mul_pos_left (by lia) (by lia) (b:=(Pq t b:Int))
theorem Au{t b:Int}(h:b≠0):Pq (gq t b).1 (gq t b).2=1:=by
  obtain⟨d,h1,h2,h3,h4,h5⟩:=rR (t:=t) h
  have e:Pq ((gq t b).1*d) ((gq t b).2*d)=Pq (gq t b).1 (gq t b).2*d.natAbs:=Int.gcd_mul_right ..
  rw [h3,h4,←h1] at e
  have hd:0 < d.natAbs:=by lia
  exact(Nat.eq_of_mul_eq_mul_right hd (by rw [Nat.one_mul];exact e)).symm
theorem FF{t b:Int}(h:b≠0){n:Nat}(hb:Bt n b):Bt n (Pq t b:Int):=by
  refine hb.of_le ?_
  have h1:=Nat.le_of_dvd (show 0 < b.natAbs by lia) (Int.ofNat_dvd.mp (by rw [Int.dvd_natAbs];exact Int.gcd_dvd_right t b))
  lia
mutual
def cnt:OT→Nat
  | .tuple ds=>1+lr ds
  | .str _=>0
  | _=>1
def lr:List OT→Nat
  | []=>0
  | d::ds=>cnt d+lr ds
end
mutual
def p7:OT→Bool
  | .tuple ds=>i5 ds
  | .str _=>false
  | .list _=>false
  | .dict _=>false
  | _=>true
def i5:List OT→Bool
  | []=>true
  | d::ds=>p7 d&&i5 ds
end
theorem qV{a:Int}(h:a.natAbs.log2 < 1920):(OX (toString a)).length≤1921:=by
  have e:=int_text_length_le (k:=1920) (by decide) h
  rw [PySem.ofString_length];lia
theorem xa(x:Str)(r:List Str):piled (x::r)=x.length+2+piled r:=by
  simp [piled]
theorem zp(ts:List Str):(tupleText ts).length≤piled ts+3:=by
  unfold tupleText
  rw [strLen_append,strLen_append]
  have h1:(("(":Str)).length=1:=by decide
  have h2:(OX (if (ts.length==1)=true then ",)" else ")")).length≤2:=by split<;>decide
  have h3:(PN ", " ts).length≤piled ts:=by
    cases ts with
    | nil=>show(PN ", " []).length≤0;decide
    | cons x r=>have:=join_length_add (x::r) (by simp);lia
  lia
mutual
theorem su:∀{d:OT},p7 d=true→d.showable=true→d.shown.length+2≤2000*cnt d
  | .none,_,_=>by show(OX "None").length+2≤2000*1;decide
  | .bool b,_,_=>by
    cases b
    · show(OX "False").length+2≤2000*1;decide
    · show(OX "True").length+2≤2000*1;decide
  | .int i,_,hs=>by
    simp only [PyData.showable,decide_eq_true_eq] at hs
    have:=qV hs
    show(OX (toString i)).length+2≤2000*1
    lia
  | .tuple ds,hn,hs=>by
    simp only [PyData.showable] at hs
    simp only [p7] at hn
    have h1:=mV hn hs
    have h2:=zp (SG ds)
    simp only [PyData.shown,cnt]
    lia
  | .str _,hn,_=>by simp [p7] at hn
  | .list _,hn,_=>by simp [p7] at hn
  | .dict _,hn,_=>by simp [p7] at hn
theorem mV:∀{ds:List OT},i5 ds=true→SH ds=true→piled (SG ds)≤2000*lr ds
  | [],_,_=>by simp [SG,piled]
  | d::ds,hn,hs=>by
    simp only [i5,PV] at hn
    simp only [SH,PV] at hs
    have h1:=su hn.1 hs.1
    have h2:=mV hn.2 hs.2
    simp only [SG,lr,xa]
    lia
end
def jr(env:Env):List (Str × Qi)→List (Str × xM)→List (Str × xM)
  | [],cs=>cs
  | (n,k)::r,cs=>jr env r (if k==.free then(n,(env.cells.lookup n).getD 0)::cs else cs)
theorem lS{env:Env}:∀(names:List (Str × Qi)) (cs:List (Str × xM)),(∀y∈names,y.2=.free→∃c,env.cells.lookup y.1=some c)→
    (forIn names cs (fun(x:Str × Qi) (r:List (Str × xM))=>(if (x.2==Qs)=true then do let a ←cellOf env x.1;pure (RQ ((x.1,a)::r)) else pure (RQ r):Sem (ForInStep (List (Str × xM))))):Sem (List (Str × xM)))=pure (jr env names cs)
  | [],cs,_=>rfl
  | (n,k)::r,cs,h=>by
    rw [List.forIn_cons]
    have ih:=fun cs'=>lS (env:=env) r cs' (fun y hy=>h y (PP _ hy))
    by_cases hk:(k==Qs)=true
    · have hk':k=.free:=by simpa using hk
      obtain⟨c,hc⟩:=h (n,k) QT hk'
      have e:cellOf env n=pure c:=by unfold cellOf;rw [hc]
      simp only [hk,if_true,e,pure_bind,jr,hc,SJ]
      exact ih _
    · have hk':(k==Qs)=false:=by simpa using hk
      simp only [hk',Ti,if_false,pure_bind,jr]
      exact ih _
theorem wu{scope:Pz}{env:Env}(h:∀y∈scope.names,y.2=.free→∃c,env.cells.lookup y.1=some c):closureFor scope env=pure (jr env scope.names []):=by
  have e:=lS (env:=env) scope.names [] h
  unfold closureFor
  simp only [pure_bind,bind_pure] at e ⊢
  exact e
theorem pG{env:Env}:∀(names:List (Str × Qi)) (cs:List (Str × xM)) (x:Str) (c:xM),(∀y∈names,y.2=.free→∃c,env.cells.lookup y.1=some c)→(∀x c,cs.lookup x=some c→env.cells.lookup x=some c)→(jr env names cs).lookup x=some c→env.cells.lookup x=some c
  | [],cs,x,c,_,hs,h=>hs x c h
  | (n,k)::r,cs,x,c,hn,hs,h=>by
    refine pG r _ x c (fun y hy=>hn y (PP _ hy)) (fun x' c' e=>?_) h
    by_cases hk:(k==Qs)=true
    · rw [if_pos hk] at e
      obtain⟨c0,hc⟩:=hn (n,k) QT (by simpa using hk)
      rw [PX] at e
      cases hx:x'==n with
      | true=>
        rw [hx] at e
        have e1:x'=n:=by simpa using hx
        subst e1
        simp only [hc,SJ,Rr] at e
        rw [←e];exact hc
      | false=>rw [hx] at e;exact hs x' c' e
    · rw [if_neg hk] at e
      exact hs x' c' e
theorem uG{env:Env}:∀(names:List (Str × Qi)) (cs:List (Str × xM)) (x:Str),((∃y∈names,y.1=x∧y.2=.free)∨∃c,cs.lookup x=some c)→∃c,(jr env names cs).lookup x=some c
  | [],cs,x,h=>by
    rcases h with ⟨y,hy,_⟩ | h
    · cases hy
    · exact h
  | (n,k)::r,cs,x,h=>by
    refine uG r _ x ?_
    by_cases hk:(k==Qs)=true
    · rw [if_pos hk,PX]
      cases hx:x==n with
      | true=>exact .inr ⟨_,rfl⟩
      | false=>
        rcases h with ⟨y,hy,e1,e2⟩ | h
        · rcases OP hy with z | z
          · subst z;subst e1;simp at hx
          · exact .inl ⟨y,z,e1,e2⟩
        · exact .inr h
    · rw [if_neg hk]
      rcases h with ⟨y,hy,e1,e2⟩ | h
      · rcases OP hy with z | z
        · subst z;exact absurd (by simpa using e2) hk
        · exact .inl ⟨y,z,e1,e2⟩
      · exact .inr h
theorem jR{env:Env}:∀{names:List (Str × Qi)} {x:Str},names.lookup x=some .free→
    (names.map fun(n,k)=>if (k==Qs&&env.scope.kind==.function&&env.kindOf n==some .cell) then(n,RF) else(n,k)).lookup x≠some .local
  | [],x,h=>by simp at h
  | (n,k)::r,x,h=>by
    rw [Pw]
    cases hx:x==n with
    | true=>
      simp only [hx,PX] at h
      cases h
      show PU x ((if (Qs==Qs&&env.scope.kind==.function&&env.kindOf n==some .cell)=true then(n,RF) else(n,Qs))::_)≠_
      split<;>simp [PX,hx]
    | false=>
      simp only [hx,PX] at h
      have ih:=@jR env r x h
      have e2:∀(l:List (Str × Qi)),((if (k==Qs&&env.scope.kind==.function&&env.kindOf n==some .cell)=true then(n,RF) else(n,k))::l).lookup x=l.lookup x:=fun l=>by
        split<;>simp [PX,hx]
      simp only [e2]
      exact ih
def Ca(X:Cx)(ifs:List OV)(t:TT):Prop:=
  ∀(pins:List (xM × Obj)) (s:OS) (σ:L2.St) (H:Hp) (Q:Bool→Hp→Prop),aM X pins σ H s→t σ H Q→
    Pc (Pe X.prog X.w) X.A (forIn ifs true fun c r=>if r=true then do let ok ←isTrue c X.env (Pf c X.env);pure (RQ ok) else pure (RQ r)) (TP X pins σ Q) X.xe s
theorem DH{X:Cx}:Ca X [] (fun _ H Q=>Q true H):=fun _ _ _ H _ I h=>wpAny_tests_nil ⟨H,I,h⟩
theorem DK{X:Cx}{c:OV}{t:TT}(h:PT X c t):Ca X [c] t:=fun pins s σ H Q I q=>wpAny_tests_one (h pins s σ H Q I q)
abbrev HK:OR→OS→Prop:=fun _ _=>False
def Fu(prog:OZ)(w:OW)(A:Pb)(elt tg:OV)(ifs:List OV)(env:Env)(it acc:OR)(onward:OS→Prop)(v:OR)(u:OS):Prop:=
  Pc (Pe prog w) A (So tg it v) (fun _ u1=>Pc (Pe prog w) A (assign tg env v) (fun _ u2=>Pc (Pe prog w) A
    (forIn ifs true fun c r=>if r=true then do let ok ←isTrue c env (Pf c env);pure (RQ ok) else pure (RQ r)) (fun ok u3=>if ok=true then Pc (Pe prog w) A (Pf elt env) (fun x u4=>Pc (Pe prog w) A (call (.builtin "list.append") [acc,x]) (fun _ u5=>onward u5) HK u4) HK u3 else onward u3) HK u2) HK u1) HK u
theorem s_{prog:OZ}{w:OW}{A:Pb}{R:Result→OS→Prop}{elt tg iter:OV}{ifs:List OV}{scope:Pz}{pos:Pos}{it acc:OR}{env:Env}(J:Nat→OS→Prop)
    (turn:∀n u,J n u→Pc (Pe prog w) A (pyNext it) (fun r u1=>(r=none→R (.ok .next) u1)∧∀v,r=some v→Fu prog w A elt tg ifs env it acc (fun u2=>∃m,m < n∧J m u2) v u1) HK u){n0:Nat}{u0:OS}(gG:J n0 u0):
    codeAny (Pe prog w) A (.compLoop (.ListComp elt [⟨tg,iter,ifs,0⟩] scope pos) 0 it acc env) R u0:=by
  refine codeAny_loop rfl J (fun n u ju=>?_) n0 gG
  show Pc _ A ((compTurn (.ListComp elt [⟨tg,iter,ifs,0⟩] scope pos) 0 it acc env).onRaise _) _ _ u;refine wpAny_noted ?_;rw [compTurn_list]
  refine Ph (wpAny_standAt (Ph (Qv (turn n u ju) (fun r u1 k1=>?_) fun _ _ z=>z.elim)))
  cases r with
  | none=>exact Pl (k1.1 rfl)
  | some v=>
    refine Ph (Qv (k1.2 v rfl) (fun _ u2 k2=>Ph (Qv k2 (fun _ u3 k3=>Ph (Qv k3 (fun ok u4 k4=>?_) fun _ _ z=>z.elim)) fun _ _ z=>z.elim)) fun _ _ z=>z.elim)
    cases ok with
    | false=>rw [if_neg Rz] at k4;exact Pl ⟨rfl,k4⟩
    | true=>
      rw [if_pos rfl] at k4
      refine Ph (Ph (Qv k4 (fun x u5 k5=>Ph (Qv k5 (fun _ u6 k6=>?_) fun _ _ z=>z.elim)) fun _ _ z=>z.elim));exact Pl (Pl ⟨rfl,k6⟩)
def jM(cp:List (Nat × Str))(nT:Nat)(σ:L2.St):L2.St:=cp.map (fun p=>(σ[p.1]?).join)++Pi nT none
structure BX (cp:List (Nat × Str)) (nT:Nat) (wi:TI) (g:TG) (tc:TT) (te:TE) (σ:L2.St) (H:Hp) (Q:VK):Prop where
  go:wi σ H fun J H1=>∀l,H1 l=none→
  ∃W:Nat→Nat→L2.St→Hp→Prop,(∃m,W 0 m (jM cp nT σ) (bE H1 l (.lst [])))∧∀i m σ' H',W i m σ' H'→
    (J.stop i H'∧Q (.ref l) H')∨(J.go i H'∧∃N:L2.St→Hp→Prop,(∀σ2 H2,N σ2 H2→∃m',m' < m∧W (i+1) m' σ2 H2)∧
      ∀x H2,J.yld i H' x H2→g x σ' H2 fun σ2 H3=>tc σ2 H3 fun b H4=>if b=true then te σ2 H4 fun v H5=>∃ys,H5 l=some (.lst ys)∧ys.length < Pk∧N σ2 (bE H5 l (.lst (ys++[v]))) else N σ2 H4)
section
variable{X:Cx}
def Bv(K:OU):R2:=fun x y H Q=>∃a b xs ys,x=.ref a∧y=.ref b∧eV K H a xs∧eV K H b ys∧xs.length+ys.length≤Pk∧∀p H',aq H H'→eV K H' p (xs++ys)→Q (.ref p) H'
theorem Dm:iC X (PR .Add) (Bv X.K):=by
  intro pins s σ H x y v u Q I rx ry h
  obtain⟨a,b,xs,ys,rfl,rfl,ha,hb,hz,q⟩:=h
  cases rx;cases ry
  by_cases hx:xs=[]
  · obtain⟨i1,r1,p1,_⟩:=I.tuple ha
    obtain⟨i2,r2,p2,_⟩:=I.tuple hb
    obtain⟨m,F⟩:=I.fr
    have e1:i1=[]:=by subst hx;cases r1;rfl
    refine add_tuples F (AG (g:=X.base)) p1 p2 (fun _=>?_) (fun z1 _=>absurd e1 z1) (fun z1 _ _ _ _=>absurd e1 z1) (by rw [←r1.length,←r2.length];exact hz)
    exact⟨.ref b,H,I,rfl,q b H (aq.refl H) (by rw [hx];exact hb)⟩
  · exact Dn pins s σ H (.ref a) (.ref b) _ _ Q I rfl rfl ⟨a,b,xs,ys,rfl,rfl,ha,hb,hx,hz,fun z=>q a H (aq.refl H) (by rw [z,Qo];exact ha),fun _ p hp=>q p _ (aq.new hp) (eV.of av)⟩
theorem jH{x:V}{us:List OR}(r:aV [x] us):∃u,us=[u]∧bL x u:=by
  cases r with
  | cons p p'=>cases p';exact⟨_,rfl,p⟩
theorem zO{k:Nat}(hr:bG k X.A):dB X (.builtin "sum") (fun xs H Q=>∃(l:xM) (ns:List Int),xs=[.ref l]∧iN X.K H l (ns.map V.int)∧Q (.int ns.sum) H):=by
  intro pins s σ H xs us Q I r h
  obtain⟨l,ns,rfl,hs,q⟩:=h
  obtain⟨u,rfl,ru⟩:=jH r
  cases ru
  obtain⟨its,rv,p,hz⟩:=I.list hs
  have hi:QW its ns:=pW rv
  obtain⟨ys,ey⟩:=hi.allInts.items
  have hl:=p.isList
  rw [ey] at hl
  refine PySem.sum_intListG hr.hd hl fun h' tk t' hk=>?_
  have e:preSum (numAt ys) ys.size=ns.sum:=by
    have e2:=nums_intItems (xs:=ys)
    rw [←ey] at e2
    have e3:=hi.numsOf
    rw [preSum_eq,List.take_of_length_le (by simp)]
    rw [show its.toArray.toList=its from rfl,e3] at e2
    rw [e2]
  exact⟨.int ns.sum,H,I.kept hk,⟨t',by rw [e]⟩,q⟩
theorem uH{prog:OZ}{w:OW}{A:Pb}{E:OR→OS→Prop}{s:OS}{t:xM}{vs:List OR}{Q:List OR→OS→Prop}(ht:IsTup s.heap t vs.toArray)
    (h:Q vs {s with heap:=(s.heap.push (seqObj "list" #[] 0)).update s.heap.objs.size (RE (· ++vs.toArray))})(hsz:vs.length≤Pk):Pc (Pe prog w) A (collect (.ref t)) Q E s:=by
  obtain⟨o,ho,hc,n,hd⟩:=id ht;unfold collect;refine Ph (wpAny_runValue (codeAny_builtin entry_proto_collect' ?_))
  show Pc _ _ (do again (.builtin "list.__iadd__" ⟨[←newList [],.ref t],[]⟩)) _ _ s
  refine Ph (wpAny_newList (Pl ⟨Code.quiet_builtin _ (by decide+kernel),?_⟩));refine codeAny_builtin entry_list_iadd' ?_
  show Pc _ _ (TC (.ref s.heap.objs.size) (.ref t) (.ref s.heap.objs.size)) _ _ {s with heap:=s.heap.push (seqObj "list" #[] 0)}
  unfold TC;have ho':(s.heap.push (seqObj "list" #[] 0)).get? t=some o:=PL _ ho
  refine Ph (wpAny_typeOf (T:="tuple") ⟨o,ho',hc⟩ ?_)
  rw [if_pos (by rw [show(Value.type "tuple"==Value.type "tuple")=true from rfl,Bool.or_true])]
  refine Ph (listItems_at ho' hd ?_);refine Ph (listItems_at (xs:=#[]) (n:=0) (Qm _ rfl) rfl ?_)
  rw [if_neg (by simp)];refine Ph (listUpdate_at (xs:=#[]) (n:=0) (Qm _ rfl) rfl ?_ (QP _) (by show(#[]++vs.toArray).size≤Pk+1;simp only [Array.size_append,Py,List.length_nil];lia))
  refine Pl ?_
  show Pc (Pe prog w) A (load s.heap.objs.size >>= fun o=>match o.data with | .seq xs _=>pure xs.toList | _=>unsupported "internal:collect") Q E {s with heap:=(s.heap.push (seqObj "list" #[] 0)).update s.heap.objs.size (RE (· ++vs.toArray))}
  refine Ph (wpAny_load (get?_update_seq (Qm _ rfl) _) ?_);show Pc _ _ (pure ((#[]:Array OR)++vs.toArray).toList) Q E _;rw [show((#[]:Array OR)++vs.toArray).toList=vs by simp];exact Pl h
theorem xj{prog:OZ}{w:OW}{A:Pb}{E:OR→OS→Prop}{s:OS}{t:xM}{vs:List OR}{ns:List Int}{Q:OR→OS→Prop}(ht:IsTup s.heap t vs.toArray)(hI:QW vs ns)(h64:vs.length < 64)
    (h:∀(out:Array OR) (ns':List Int),QW out.toList ns'→ns'.Perm ns→ns'.Pairwise (· ≤·)→Q (.ref (s.heap.objs.size+1)) {s with heap:=sortedAll s.heap vs out}):Pc (Pe prog w) A (call (.builtin "sorted") [.ref t]) Q E s:=by
  refine Calls.call_function_entry kind_sorted plain_sorted entry_sorted (args_sorted1 _) ?_;unfold Builtin.«sorted»
  refine Ph (m:=checkCount "sorted" 1 1 _) (Pl ?_);refine Ph (uH ht ?_ (PK (Rw h64) (by decide)))
  have z:((s.heap.push (seqObj "list" #[] 0)).update s.heap.objs.size (RE (· ++vs.toArray))).objs.size=s.heap.objs.size+1:=by rw [Heap.size_update,size_push']
  have o:(((s.heap.push (seqObj "list" #[] 0)).update s.heap.objs.size (RE (· ++vs.toArray))).push (seqObj "list" vs.toArray 0)).get? (s.heap.objs.size+1)=some (seqObj "list" vs.toArray 0):=by rw [←z];exact Qm _ rfl
  refine Ph (wpAny_newList ?_);show Pc _ _ _ _ _ {s with heap:=((s.heap.push (seqObj "list" #[] 0)).update s.heap.objs.size (RE (· ++vs.toArray))).push (seqObj "list" vs.toArray 0)}
  rw [z];refine Ph (wpAny_holding (wpAny_call_entry slot_list_sort ⟨_,o,rfl⟩ entry_list_sort (list_sort_tree o hI h64 fun out ns' b1 b2 b3=>⟨_,rfl,?_⟩) (args_list_sort _)))
  exact Pl ⟨_,rfl,h out ns' b1 b2 b3⟩
theorem uD:dB X (.builtin "sorted") (fun xs H Q=>∃(a:xM) (ns:List Int),xs=[.ref a]∧eV X.K H a (ns.map V.int)∧ns.length < 64∧∀(l:xM) (ns':List Int) (H':Hp),aq H H'→H l=none→H' l=some (.lst (ns'.map V.int))→ns'.Perm ns→ns'.Pairwise (· ≤·)→Q (.ref l) H'):=by
  intro pins s σ H xs us Q I r h
  obtain⟨a,ns,rfl,hs,h64,q⟩:=h
  obtain⟨u,rfl,ru⟩:=jH r
  cases ru
  obtain⟨its,rv,p,hz⟩:=I.tuple hs
  have hl:=rv.length
  rw [Px] at hl
  refine xj p (pW rv) (by lia) fun out ns' a1 a2 a3=>?_
  obtain⟨e,he⟩:=sortedAll_at s.heap its out
  have hf:H (s.heap.objs.size+1)=none:=I.hok.fresh (Nat.le_succ _)
  refine⟨.ref (s.heap.objs.size+1),bE H (s.heap.objs.size+1) (.lst (ns'.map V.int)),I.laid (t':=s.toks) (fun _ _=>sortedAll_old) (Nat.le_succ _) ⟨?_,out.toList,e,nK a1,?_⟩,rfl,q _ ns' _ (aq.new hf) hf av a2 a3⟩
  · rw [Px,a2.length_eq]
    exact PK (Rw h64) (by decide)
  · simpa [seqObj] using he
end
section
variable{X:Cx}
end
theorem ze{e:OV}{es:List OV}{env:Env}(h:Rl e=false):Pd (e::es) env=(false,Pf e env)::Pd es env:=by
  cases e<;>first | rfl | cases h
theorem vm{X:Cx}{e:OV}{es:List OV}{te:TE}{t:TA}(ha:PE X e te)(hr:PA X es t)(h:Rl e=false:=by rfl):PA X (e::es) (oA te t):=mF ha hr (ze h)
def yq:List (Int × Int)→TA
  | []=>BZ
  | p::r=>oA (JL (oA (tC (.int p.1)) (oA (tC (.int p.2)) BZ))) (yq r)
@[irreducible] def K1(ps:List (Int × Int)):TA:=yq ps
structure lK where
  one:Int
  other:Int
  top:Int
  bot:Int
  worth:Int
structure aS where
  things:Int
  ties:List lK
  pat:List Int
  asks:Int
structure lK.Ok (n:Int) (t:lK):Prop where
  o0:0≤t.one
  o1:t.one < t.other
  o2:t.other < n
  c0:0≤t.top
  c1:t.top≤t.bot
  b0:1≤t.bot
  b1:t.bot≤100
  w0:0≤t.worth
  w1:t.worth≤1000
  cop:Pq t.top t.bot=1
structure aS.Ok (w:aS):Prop where
  t0:0≤w.things
  t1:w.things≤12
  ties:∀t∈w.ties,t.Ok w.things
  len:w.ties.length≤16
  pl:(w.pat.length:Int)=w.things
  pat:∀p∈w.pat,0≤p∧p≤20
  a0:0≤w.asks
  a1:w.asks≤40
def HN(K:OU)(H:Hp)(v:V)(t:lK):Prop:=∃p q,v=.ref p∧eV K H p [.int t.one,.int t.other,.ref q,.int t.worth]∧eV K H q [.int t.top,.int t.bot]
inductive sP (K:OU) (H:Hp):List V→List lK→Prop
  | nil:sP K H [] []
  | cons {v vs t ts}:HN K H v t→sP K H vs ts→sP K H (v::vs) (t::ts)
structure Lf (K:OU) (H:Hp) (v:V) (w:aS):Prop where
  ex:∃a b c ts,v=.ref a∧eV K H a [.int w.things,.ref b,.ref c,.int w.asks]∧eV K H b ts∧sP K H ts w.ties∧eV K H c (w.pat.map V.int)
section
variable{K:OU}{H H':Hp}
end
theorem wL{t b:Int}(hb:0 < b)(h0:0≤t)(h1:t≤b)(h2:b≤100):0≤(gq t b).1∧(gq t b).1≤(gq t b).2∧1≤(gq t b).2∧(gq t b).2≤100:=by
  obtain⟨d,e1,e2,e3,e4,e5⟩:=rR (t:=t) (b:=b) (by lia)
  generalize (gq t b).1=x at*
  generalize (gq t b).2=y at*
  have dp:0 < d:=by
    rcases Int.lt_or_gt_of_ne e2 with z | z
    · exfalso
      have:y*d < 0:=Int.mul_neg_of_pos_of_neg e5 z
      lia
    · exact z
  have x0:0≤x:=by
    rcases Int.lt_or_le x 0 with z | z
    · have:x*d < 0:=Int.mul_neg_of_neg_of_pos z dp
      lia
    · exact z
  have xy:x≤y:=by
    rcases Int.lt_or_le y x with z | z
    · have:y*d < x*d:=Int.mul_lt_mul_of_pos_right z dp
      lia
    · exact z
  have yb:y≤y*d:=by
    have:=Int.mul_le_mul_of_nonneg_left (show(1:Int)≤d by lia) (show 0≤y by lia)
    lia
  exact⟨x0,xy,by lia,by lia⟩
inductive oC {α β:Type} (R:α→β→Prop):List α→List β→Prop
  | nil:oC R [] []
  | cons {a b as bs}:R a b→oC R as bs→oC R (a::as) (b::bs)
namespace oC
variable{α β:Type}{R S:α→β→Prop}
theorem mono(h:∀a b,R a b→S a b):∀{as:List α} {bs:List β},oC R as bs→oC S as bs
  | _,_,.nil=>.nil
  | _,_,.cons x r=>.cons (h _ _ x) (mono h r)
theorem len:∀{as:List α} {bs:List β},oC R as bs→as.length=bs.length
  | _,_,.nil=>rfl
  | _,_,.cons _ r=>by simp [len r]
theorem snoc{a:α}{b:β}(h:R a b):∀{as:List α} {bs:List β},oC R as bs→oC R (as++[a]) (bs++[b])
  | _,_,.nil=>.cons h .nil
  | _,_,.cons x r=>.cons x (snoc h r)
theorem get:∀{as:List α} {bs:List β} {i:Nat} {b:β},oC R as bs→bs[i]?=some b→∃a,as[i]?=some a∧R a b
  | _,_,_,_,.nil,e=>by simp at e
  | _,_,0,_,.cons x _,e=>by simp at e;subst e;exact⟨_,rfl,x⟩
  | _,_,i+1,b,.cons _ r,e=>by
    obtain⟨v,h1,h2⟩:=get (i:=i) (b:=b) r (by simpa using e)
    exact⟨v,by simpa using h1,h2⟩
end oC
section
variable{K:OU}{a l:xM}{xs:List V}{g:TG}{tc:TT}{te:TE}{Q:VK}{σ:L2.St}{H:Hp}{α β:Type}{us:List α}{cp:List (Nat × Str)}{nT:Nat}
def JZ(a_:Hp→V→β→Prop)(SI:L2.St→Prop)(us:List α)(f:α→Option β)(H:Hp)(l:xM)(i:Nat)(σ:L2.St)(H':Hp):Prop:=SI σ∧aq H H'∧∃vs,H' l=some (.lst vs)∧vs.length≤i∧oC (a_ H') vs ((us.take i).filterMap f)
end
theorem oz:∀{a b:List Int},a.Perm b→a.Pairwise (· ≤·)→b.Pairwise (· ≤·)→a=b
  | [],b,p,_,_=>by
    have:=p.length_eq
    exact(Tj.mp this.symm).symm
  | x::a,b,p,h1,h2=>by
    cases b with
    | nil=>have:=p.length_eq;simp at this
    | cons y b=>
      have h1':=SK.mp h1
      have h2':=SK.mp h2
      have e:x=y:=by
        have m1:y∈x::a:=p.mem_iff.mpr (by simp)
        have m2:x∈y::b:=p.mem_iff.mp (by simp)
        rcases OP m1 with z | z
        · exact z.symm
        · rcases OP m2 with z2 | z2
          · exact z2
          · have:=h1'.1 y z
            have:=h2'.1 x z2
            lia
      subst e
      rw [oz ((List.perm_cons x).mp p) h1'.2 h2'.2]
def je(ns:List Int):List Int:=ns.mergeSort
theorem BV{ns ns':List Int}(p:ns'.Perm ns)(h:ns'.Pairwise (· ≤·)):ns'=je ns:=by
  refine oz (p.trans (List.mergeSort_perm ns _).symm) h ?_
  have:=List.pairwise_mergeSort (le:=fun a b:Int=>decide (a≤b)) (fun a b c h1 h2=>by simp at*;lia) (fun a b=>by simp;lia) ns
  exact this.imp fun h=>by simpa using h
theorem lG(ns:List Int):(je ns).Perm ns:=List.mergeSort_perm ns _
theorem sy{ns:List Int}{x:Int}:x∈je ns↔ x∈ns:=(lG ns).mem_iff
theorem sx(ns:List Int):(je ns).length=ns.length:=(lG ns).length_eq
section
variable{X:Cx}{K:OU}{pos:Pos}
theorem x4{es:List OV}{k:Nat}{t:Cd}{n:Nat}(hK:X.K=K)(hc:X.calm=true)(h:zy X es t)(hn:(PQ es X.env).length=n:=by rfl)(hst:(PQ es X.env).findIdx? (·.1)=none:=by rfl):PG X (.Tuple es k pos) (Ih K n t):=hK ▸ GW hc h hn hst
theorem DC{tg l:OV}{tl:TE}(h:X.K=K)(hl:PE X l tl):PI X tg l (Il K tl):=h ▸ GX hl
theorem A4{tg l:OV}{tl:TE}(h:X.K=K)(hl:PE X l tl):PI X tg l (ED K tl):=h ▸ DB hl
end
instance:Inhabited lK:=⟨⟨0,1,1,1,0⟩⟩
def aS.tie(W:aS)(k:Int):lK:=W.ties.getD k.toNat default
def aS.has(W:aS)(k thing:Int):Bool:=(W.tie k).one==thing || (W.tie k).other==thing
def aS.many(W:aS)(asked:List Int)(thing:Int):Int:=((asked.filter fun k=>W.has k thing).length:Nat)
def aS.bears(W:aS)(asked taken:List Int)(thing:Int):Bool:= !taken.contains thing&&decide (W.many asked thing < W.pat.getD thing.toNat 0)
def aS.may(W:aS)(asked taken:List Int)(k:Int):Bool:= !(asked.contains k || decide (W.asks≤(asked.length:Int)))&&(W.bears asked taken (W.tie k).one&&W.bears asked taken (W.tie k).other)
def aS.askd(asked:List Int)(k:Int):List Int:=je (asked++[k])
def aS.took(W:aS)(taken:List Int)(k:Int)(truth:Bool):List Int:=if truth then je (taken++[(W.tie k).one,(W.tie k).other]) else taken
def aS.rng(W:aS):List Int:=(QS W.ties.length).map Int.ofNat
def aS.can(W:aS)(asked taken:List Int):List Int:=W.rng.filter fun k=>W.may asked taken k
def ix(W:aS)(k:Int):Prop:=0≤k∧k < (W.ties.length:Int)
theorem ix.get{W:aS}{k:Int}(h:ix W k):W.ties[k.toNat]?=some (W.tie k):=by
  have hk:k.toNat < W.ties.length:=by have:=h.1;have:=h.2;lia
  unfold aS.tie
  rw [Tn,QA hk];rfl
theorem ix.ok{W:aS}{k:Int}(h:ix W k)(o:W.Ok):(W.tie k).Ok W.things:=o.ties _ (OQ h.get)
theorem C7{W:aS}{k:Int}:k∈W.rng↔ ix W k:=by
  unfold aS.rng ix
  rw [Rt]
  constructor
  · rintro⟨n,hn,rfl⟩
    have:=Ru.mp hn
    exact⟨Int.natCast_nonneg n,by simp;lia⟩
  · rintro⟨h0,h1⟩
    exact⟨k.toNat,Ru.mpr (by lia),by simp;lia⟩
theorem xW{W:aS}{asked taken:List Int}{k:Int}(h:k∈W.can asked taken):ix W k:=C7.mp (QJ.mp h).1
def Fg(K:OU)(H:Hp)(v:V)(asked taken:List Int):Prop:=∃a b c,v=.ref a∧eV K H a [.ref b,.ref c]∧eV K H b (asked.map V.int)∧eV K H c (taken.map V.int)
theorem Fg.ts{K:OU}{H H':Hp}(s:nP H H'){v:V}{asked taken:List Int}(h:Fg K H v asked taken):Fg K H' v asked taken:=by
  obtain⟨a,b,c,e,h1,h2,h3⟩:=h
  exact⟨a,b,c,e,s.tup h1,s.tup h2,s.tup h3⟩
theorem ky{ns:List Int}:(ns.map V.int).all Ew=true:=by
  induction ns with
  | nil=>rfl
  | cons n r ih=>simpa [Ew] using ih
section
variable{K:OU}{σ:L2.St}{H:Hp}{Q:VK}{i j:Nat}{vW:V}{W:aS}{k:Int}
end
def E1(k:Int):Prop:= -1000000≤k∧k≤1000000
def Dk(n dep:Nat)(d:OT):Prop:=d.showable=true∧p7 d=true∧L2.cnt d≤n∧d.depth≤dep
theorem Dk.mono{n m dep e:Nat}{d:OT}(h:Dk n dep d)(h1:n≤m)(h2:dep≤e):Dk m e d:=⟨h.1,h.2.1,PK h.2.2.1 h1,PK h.2.2.2 h2⟩
theorem Dk.int{k:Int}(h:E1 k):Dk 1 2 (.int k):=by
  refine⟨?_,rfl,Pp _,by simp [Qj]⟩
  show decide (k.natAbs.log2 < 1920)=true
  rw [decide_eq_true_eq]
  exact Nat.lt_trans ((show Bt 64 k by have:=h.1;have:=h.2;unfold Bt;lia).log (by decide)) (by decide)
theorem Dk.bool(b:Bool):Dk 1 2 (.bool b):=⟨rfl,rfl,Pp _,by simp [Qj]⟩
theorem Dk.none:Dk 1 2 .none:=⟨rfl,rfl,Pp _,by simp [Qj]⟩
theorem Dk.all{n dep:Nat}:∀{ds:List OT},(∀d∈ds,Dk n dep d)→SH ds=true∧i5 ds=true∧lr ds≤ds.length*n∧QR ds≤dep
  | [],_=>⟨rfl,rfl,by simp [lr],by simp [QR]⟩
  | d::r,h=>by
    obtain⟨a1,a2,a3,a4⟩:=h d (by simp)
    obtain⟨b1,b2,b3,b4⟩:=Dk.all (ds:=r) fun x hx=>h x (by simp [hx])
    refine⟨?_,?_,?_,?_⟩
    · simp only [SH,a1,b1,Bool.and_self]
    · simp only [i5,a2,b2,Bool.and_self]
    · simp only [lr,QD,Nat.succ_mul]
      lia
    · simp only [QR];lia
theorem Dk.tup{n dep m:Nat}{ds:List OT}(h:∀d∈ds,Dk n dep d)(hl:ds.length≤m):Dk (1+m*n) (dep+2) (.tuple ds):=by
  obtain⟨b1,b2,b3,b4⟩:=Dk.all h
  refine⟨b1,b2,?_,?_⟩
  · simp only [L2.cnt]
    have:=Nat.mul_le_mul_right n hl
    lia
  · simp only [Qj];lia
theorem Dk.ok{n dep:Nat}{d:OT}(h:Dk n dep d)(h1:n≤8000)(h2:dep≤60):d.showable=true∧d.depth≤60∧d.shown.length≤Pk:=by
  have:=su h.2.1 h.1
  have sl:Pk=16777216:=Qg
  have:=h.2.2.1
  exact⟨h.1,PK h.2.2.2 h2,by lia⟩
theorem Dk.ints{ns:List Int}{m:Nat}(hl:ns.length≤m)(h:∀r∈ns,E1 r):Dk (1+m) 4 (.tuple (ns.map .int)):=by
  have:=Dk.tup (n:=1) (dep:=2) (m:=m) (ds:=ns.map PyData.int) (fun d hd=>by
    obtain⟨x,hx,rfl⟩:=OO hd
    exact Dk.int (h x hx)) (by rw [Px];exact hl)
  simpa using this
section
variable{K:OU}{H:Hp}
theorem Dk.bools{ns:List Bool}{m:Nat}(hl:ns.length≤m):Dk (1+m) 4 (.tuple (ns.map .bool)):=by
  have:=Dk.tup (n:=1) (dep:=2) (m:=m) (ds:=ns.map PyData.bool) (fun d hd=>by
    obtain⟨x,hx,rfl⟩:=OO hd
    exact Dk.bool x) (by rw [Px];exact hl)
  simpa using this
def b5(t:lK):OT:=.tuple [.int t.one,.int t.other,.tuple [.int t.top,.int t.bot],.int t.worth]
def au(W:aS):OT:=.tuple [.int W.things,.tuple (W.ties.map b5),.tuple (W.pat.map .int),.int W.asks]
def c_(asked taken:List Int):OT:=.tuple [.tuple (asked.map .int),.tuple (taken.map .int)]
end
theorem zF:∀{bs:List Bool} {us:List OR} {i:Nat} {v:OR},aV (bs.map V.bl) us→us[i]?=some v→∃b,bs[i]?=some b∧v=.bool b
  | [],us,i,v,r,e=>by cases r;simp at e
  | b::bs,us,i,v,r,e=>by
    cases r with
    | cons p q=>
      cases i with
      | zero=>simp at e;subst e;cases p;exact⟨b,rfl,rfl⟩
      | succ i=>
        obtain⟨c,h1,h2⟩:=zF (bs:=bs) (i:=i) (v:=v) q (by simpa using e)
        exact⟨c,by simpa using h1,h2⟩
theorem DQ(bs:List Bool):((QS bs.length).all fun i=>(bs[i]?).getD true)=bs.all id:=by
  rw [RT,PY,PY]
  constructor
  · intro h b hb
    obtain⟨i,hi,rfl⟩:=List.getElem_of_mem hb
    have:=h i (Ru.mpr hi)
    rw [QA hi] at this
    exact this
  · intro h i hi
    have hi':=Ru.mp hi
    rw [QA hi']
    exact h _ (SL hi')
section
variable{X:Cx}
theorem zM{k:Nat}{K:OU}(hr:bG k X.A)(hK:X.K=K):dB X (.builtin "all") (fun xs H Q=>∃(l:xM) (bs:List Bool),xs=[.ref l]∧iN K H l (bs.map V.bl)∧Q (.bl (bs.all id)) H):=by
  intro pins s σ H xs us Q I r h
  subst hK
  obtain⟨l,bs,rfl,hs,q⟩:=h
  obtain⟨u,rfl,ru⟩:=jH r
  cases ru
  obtain⟨its,rv,p,hz⟩:=I.list hs
  have hl:=p.isList
  have lt:l < s.heap.objs.size:=by obtain⟨_,e,_⟩:=hl;exact Pr e
  refine PySem.call_all_walk (wpAny_pyIter_list hl ?_)
  refine⟨s.heap.objs.size,[s.heap.objs.size,l],[s.heap.objs.size],its.toArray.size,_,_,fun i=>(bs[i]?).getD true,rfl,Walks.list (A:=X.A.in1) hr.hd _ l (Qn lt) its.toArray,⟨⟨_,Qm _ rfl,rfl,rfl⟩,hl.push _⟩,fun i v s' Q' E' hP hQ=>?_,fun h' tk hk=>?_⟩
  · obtain⟨b,e,rfl⟩:=zF rv (by simpa using hP)
    simp only [e,SJ] at hQ
    exact RU hQ
  · have e:its.toArray.size=bs.length:=by have:=rv.length;rw [Px] at this;simpa using this.symm
    rw [e,DQ]
    refine⟨.bl (bs.all id),H,I.kept fun b x e=>hk b x (fun hm=>?_) (PL _ e),rfl,q⟩
    rw [PJ.mp hm] at e
    exact Re _ (Pr e)
end
theorem zH:QK "all"=some (.builtin "all"):=by decide+kernel
section
variable{prog:OZ}{w:OW}{A:Pb}{E:OR→OS→Prop}{s:OS}
end
structure Sc (prog:OZ) (w:OW) (it l:xM) (St:Nat→OY→Prop) (Sq:OY→Array OR→Prop):Prop where
  stay:∀{k h h'},St k h→(∀o,h.get? it=some o→h'.get? it=some o)→St k h'
  live:∀{k h},St k h→∃o,h.get? it=some o∧∀v,o.data≠.cell v
  row:∀{h h' xs},Sq h xs→(∀o,h.get? l=some o→h'.get? l=some o)→Sq h' xs
  next:∀{A:Pb} {s:OS} {E:OR→OS→Prop} {Q:OR→OS→Prop} {k:Nat} {xs:Array OR} {x:OR},St k s.heap→Sq s.heap xs→xs[k]?=some x→(∀g,St (k+1) g→RL it s.heap g→Q x {s with heap:=g})→Pc (Pe prog w) A (TF (.ref it)) Q E s
  last:∀{A:Pb} {s:OS} {E:OR→OS→Prop} {Q:OR→OS→Prop} {k:Nat} {xs:Array OR},A.handled=none→St k s.heap→Sq s.heap xs→xs[k]?=none→(∀g e,Heap.ExtBut it s.heap g→(∃o,g.get? e=some o∧o.cls=.type "StopIteration")→E (.ref e) {s with heap:=g})→Pc (Pe prog w) A (TF (.ref it)) Q E s
structure K_ (z TI TO i1 i2 l1 l2:xM):Prop where
  a1:TO≠z
  a2:i1≠z
  a3:i2≠z
  a4:TO≠i1
  a5:TO≠i2
  a6:i1≠i2
  b1:l1≠z
  b2:l1≠TO
  b3:l1≠i1
  b4:l1≠i2
  c1:l2≠z
  c2:l2≠TO
  c3:l2≠i1
  c4:l2≠i2
section
variable{prog:OZ}{w:OW}{A:Pb}{E:OR→OS→Prop}{s:OS}{z TI TO i1 i2 l1 l2:xM}{k:Nat}{xs ys:Array OR}{a b:OR}{S1 S2:Nat→OY→Prop}{R1 R2:OY→Array OR→Prop}
end
section
variable{X:Cx}{pins:List (xM × Obj)}{σ:L2.St}{H:Hp}{s:OS}{h':OY}
end
section
variable{prog:OZ}{w:OW}{A:Pb}{E:OR→OS→Prop}{s:OS}
end
def Fc(h:OY)(z TI TO:xM)(a:xM)(f:Bool):Prop:=h.get? z=some {cls:=.type "zip",data:=.fields #[rawInt a,.bool f,.bool false,.ref TI,.ref TO]}
section
variable{prog:OZ}{w:OW}{A:Pb}{E:OR→OS→Prop}{s:OS}{z TI TO i1 i2 l1 l2:xM}{k:Nat}{xs ys:Array OR}{a:xM}{f:Bool}{S1 S2:Nat→OY→Prop}{R1 R2:OY→Array OR→Prop}
end
structure ZL (S z TI TO i1 i2 l1 l2:xM) (xs ys:Array OR) (i:Nat) (h:OY):Prop where
  pr:IsPair h TI (.ref i1) (.ref i2)
  t1:h.IsTupleIter i1 l1 i
  t2:h.IsTupleIter i2 l2 i
  s1:h.IsTuple l1 xs
  s2:h.IsTuple l2 ys
  ot:∃o,h.get? TO=some o
  zs:(IsZip h z TI TO .none∧∃a b,IsPair h TO a b)∨∃a f oa,Fc h z TI TO a f∧h.get? a=some oa∧a≠S∧a≠z∧a≠i1∧a≠i2
structure K9 (S z TO i1 i2:xM) (xs ys:Array OR) (h:OY) (acc:Array OR) (i:Nat):Prop where
  sz:acc.size=i
  at_:∀(j:Nat) (v:OR),acc[j]?=some v→∃(p:xM) (x y:OR),v=.ref p∧xs[j]?=some x∧ys[j]?=some y∧IsPair h p x y∧p≠S∧p≠z∧p≠TO∧p≠i1∧p≠i2
  lo:∀(j:Nat) (p:xM),acc[j]?=some (.ref p)→S < p
  LM:∀(i j:Nat) (p q:xM),i < j→acc[i]?=some (.ref p)→acc[j]?=some (.ref q)→p < q
section
variable{prog:OZ}{w:OW}{A:Pb}{R:Result→OS→Prop}{S z TI TO i1 i2 l1 l2:xM}{xs ys:Array OR}{n:Nat}
end
section
variable{X:Cx}{pins:List (xM × Obj)}{σ:L2.St}{H H':Hp}{s:OS}{h':OY}
end
section
variable{prog:OZ}{w:OW}{A:Pb}{E:OR→OS→Prop}{s:OS}{e it l:xM}{k:Nat}{xs:Array OR}{S:Nat→OY→Prop}{R:OY→Array OR→Prop}
end
section
variable{X:Cx}{pins:List (xM × Obj)}{σ:L2.St}{H:Hp}{s:OS}
end
section
variable{X:Cx}{a:OV}{ta:TA}{p p2 pos pos2:Pos}
end
theorem yU:fillsNumberSlot (.type "tuple") "mul"=pure false:=
  PySem.fillsNumberSlot_seq (id:="tuple.__mul__") (r:=some (.builtin "tuple.__rmul__")) Se.lookup (by decide+kernel) F.slot_tuple_rmul.lookup (by decide+kernel)
theorem Hi:seqRepeat? (.type "tuple")=pure (some (.builtin "tuple.__mul__")):=by
  unfold seqRepeat?;rw [PySem.seqSlot_of (T:="tuple") (name:="__mul__") (id:="tuple.__mul__") Se.lookup (by decide+kernel),PySem.seqSlot_of (T:="tuple") (name:="__rmul__") (id:="tuple.__rmul__") F.slot_tuple_rmul.lookup (by decide+kernel)];rfl
theorem DP(a:Int)(t:Tok)(l:xM)(items:Array OR)(n:Nat)(dd:Option xM)(sl:Array (Option OR)):
    Meets (Builtin.«int.__rmul__» ⟨[.int a t,.ref l],[]⟩) (fun _ R s=>s.heap.get? l=some {cls:=.type "tuple",dict:=dd,data:=.seq items n,slots:=sl}∧R (.ok (.ret Value.notImplemented)) s):=
  .of_wp fun prog w A R s h=>by obtain⟨hp,g,d,tk,os⟩:=s;obtain⟨hl,h⟩:=h;wp_walk;exact⟨_,rfl,h⟩
theorem Gu(l:xM)(x:OR)(n:Nat)(k:Int)(u:Tok)(dd:Option xM)(sl:Array (Option OR))(h0:2≤k)(h1:k≤100000):
    Meets (Builtin.«tuple.__mul__» ⟨[.ref l,.int k u],[]⟩) (fun _ R s=>s.heap.get? l=some {cls:=.type "tuple",dict:=dd,data:=.seq #[x] n,slots:=sl}∧
      R (.ok (.ret (.ref s.heap.objs.size))) {s with heap:=s.heap.push {cls:=.type "tuple",data:=.seq (Pi k.toNat x).toArray}}):=
  .of_wp fun prog w A R s h=>by
    obtain⟨hp,g,d,tk,os⟩:=s;obtain⟨hl,h⟩:=h
    have f1:=To
    have c1:¬(decide (k < -(2 ^ 63)) || decide (k≥2 ^ 63))=true:=by simp;lia
    have c2:¬((#[x]:Array OR).isEmpty || k==1)=true:=by simp;lia
    have c3:¬(decide (k≤0) || (#[x]:Array OR).isEmpty)=true:=by simp;lia
    have c4:¬(((#[x]:Array OR).size:Int)*k > (2 ^ 63 - 1) / 8):=by simp;lia
    have c5:¬Tp (((#[x]:Array OR).size:Int)*k)=true:=by
      unfold Tp;rw [Qg];simp;lia
    wp_walk using RG hl
    rw [if_neg c1]
    wp_walk using RG hl
    rw [if_neg c2]
    wp_walk using RG hl
    rw [if_neg c3]
    wp_walk using RG hl
    rw [if_neg c4]
    show Pc _ _ (if Tp (((#[x]:Array OR).size:Int)*k)=true then _ else _) _ _ _
    rw [if_neg c5]
    have f0:∀(m:Nat) (acc:Array OR),RP (fun x1 x2=>x1++x2) acc (Pi m #[x])=acc++(Pi m x).toArray:=by
      intro m
      induction m with
      | zero=>intro acc;simp
      | succ m ih=>intro acc;rw [Rk,List.foldl_cons,ih,Rk];apply Array.toList_inj.mp;simp
    have e:RP (fun x1 x2=>x1++x2) #[] (Pi k.toNat #[x])=(Pi k.toNat x).toArray:=by rw [f0];simp
    show Pc _ _ (RO (RP (fun x1 x2=>x1++x2) #[] (Pi k.toNat #[x])) >>= fun v=>ret v) _ _ _
    rw [e]
    unfold RO
    refine Ph (Rx ?_ (by show(Pi k.toNat x).toArray.size≤Pk;rw [Py,Te,Qg];lia))
    exact Pl ⟨_,rfl,h⟩
theorem C9(l:xM)(x:OR)(n:Nat)(u:Tok)(dd:Option xM)(sl:Array (Option OR)):
    Meets (Builtin.«tuple.__mul__» ⟨[.ref l,.int 0 u],[]⟩) (fun _ R s=>s.heap.get? l=some {cls:=.type "tuple",dict:=dd,data:=.seq #[x] n,slots:=sl}∧R (.ok (.ret (.ref s.heap.objs.size))) {s with heap:=s.heap.push {cls:=.type "tuple",data:=.seq #[]}}):=
  .of_wp fun prog w A R s h=>by
    obtain⟨hp,g,d,tk,os⟩:=s;obtain⟨hl,h⟩:=h;have f1:=To
    have c2:¬((#[x]:Array OR).isEmpty || (0:Int)==1)=true:=by simp
    wp_walk using RG hl
    first | rw [if_neg c2] | skip
    wp_walk using RG hl
    exact⟨_,rfl,h⟩
theorem C_(l:xM)(x:OR)(n:Nat)(u:Tok)(dd:Option xM)(sl:Array (Option OR)):
    Meets (Builtin.«tuple.__mul__» ⟨[.ref l,.int 1 u],[]⟩) (fun _ R s=>s.heap.get? l=some {cls:=.type "tuple",dict:=dd,data:=.seq #[x] n,slots:=sl}∧R (.ok (.ret (.ref l))) s):=
  .of_wp fun prog w A R s h=>by
    obtain⟨hp,g,d,tk,os⟩:=s;obtain⟨hl,h⟩:=h;have f1:=To
    wp_walk using RG hl
    exact⟨_,rfl,h⟩
section
variable{X:Cx}
def Bz(K:OU):R2:=fun x y H Q=>∃a k v,x=.ref a∧y=.int k∧eV K H a [v]∧0≤k∧k≤100000∧∀p H',aq H H'→eV K H' p (Pi k.toNat v)→Q (.ref p) H'
theorem Dt:iC X (PR .Mult) (Bz X.K):=by
  intro pins s σ H x y v u Q I rx ry h
  obtain⟨a,k,z,rfl,rfl,ha,k0,k1,q⟩:=h
  cases rx
  obtain⟨t,rfl⟩:=ry
  obtain⟨its,r,p,hz⟩:=I.tuple ha
  obtain⟨uz,rfl,rz⟩:=jH r
  obtain⟨⟨cls,dd,data,sl⟩,ho,hc,n,hd⟩:=id p
  simp only at hc hd
  subst hc hd
  refine wpAny_binaryOp_repeat_ref (T:="tuple") (U:="int") (by decide) ⟨_,ho,rfl⟩ (fun s'=>Sd s' k t) yU F.fills_int_mul SD Hi F.slot_int_index.lookup (QE SD (Sd s k t) F.entry_int_rmul (F.args_int_rmul_2 _ _) (DP k t a #[uz] n dd sl) ⟨ho,rfl,⟨_,ho,rfl⟩,?_⟩)
  have new:∀m:Nat,m=k.toNat→EP X pins σ Q (.ref s.heap.objs.size) {s with heap:=s.heap.push {cls:=.type "tuple",data:=.seq (Pi m uz).toArray},toks:=s.toks}:=fun m hm=>by
    have hf:H s.heap.objs.size=none:=I.hok.fresh (Pp _)
    have vv:∀j:Nat,aV (Pi j z) (Pi j uz):=fun j=>by
      induction j with
      | zero=>exact .nil
      | succ j ih=>exact .cons rz ih
    refine⟨.ref s.heap.objs.size,_,I.laid (t':=s.toks) (o:=.tup (Pi m z)) (fun b ob q=>PL _ q) (Pp _) ⟨by rw [Te,Qg];lia,_,vv m,sO.new _ _⟩,rfl,q _ _ (aq.new hf) (eV.of (by rw [av,hm]))⟩
  rcases(by lia:k=0∨k=1∨2≤k) with e | e | e
  · subst e
    exact QE Se ⟨_,ho,rfl⟩ F.entry_tuple_mul (F.args_tuple_mul_2 _ _) (C9 a uz n t dd sl) ⟨ho,new 0 rfl⟩
  · subst e
    exact QE Se ⟨_,ho,rfl⟩ F.entry_tuple_mul (F.args_tuple_mul_2 _ _) (C_ a uz n t dd sl) ⟨ho,⟨.ref a,H,I,rfl,q a H (aq.refl H) ha⟩⟩
  · exact QE Se ⟨_,ho,rfl⟩ F.entry_tuple_mul (F.args_tuple_mul_2 _ _) (Gu a uz n k t dd sl e k1) ⟨ho,new _ rfl⟩
end
section
variable{prog:OZ}{w:OW}{A:Pb}{E:OR→OS→Prop}{s:OS}
end
section
variable{X:Cx}{a:OV}{ta:TA}{p p2 p3 pos pos2 pos3:Pos}
end
section
variable{prog:OZ}{w:OW}{A:Pb}{E:OR→OS→Prop}{s:OS}
end
section
variable{X:Cx}{K:OU}{es:List OV}{k0:Nat}{tp:Pos}{a:OV}{ta:TA}{p pos:Pos}
end
theorem yZ{X:Cx}:iC X (PZ .IsNot) (fun x y H Q=>∃b c,x=.bl b∧y=.bl c∧Q (.bl (!(b==c))) H):=by
  intro pins s σ H x y v u Q I rx ry h
  obtain⟨b,c,rfl,rfl,q⟩:=h
  cases rx;cases ry
  refine wpAny_isNot_plain (by cases b<;>cases c<;>rfl) ⟨.bl (!(b==c)),H,I,?_,q⟩
  show Value.bool _=Value.bool _
  cases b<;>cases c<;>rfl
section
variable{prog:OZ}{w:OW}{A:Pb}{E:OR→OS→Prop}{s:OS}
end
section
variable{prog:OZ}{w:OW}{A:Pb}{E:OR→OS→Prop}{s:OS}
end
section
variable{prog:OZ}{w:OW}{A:Pb}{E:OR→OS→Prop}{s:OS}
end
inductive vU where
  | vi (k:Int)
  | vb (x:Bool)
  | vn
  | vp (a:xM) (p q:Int)
def vU.toV:vU→V
  | .vi k=>.int k
  | .vb x=>.bl x
  | .vn=>.non
  | .vp a _ _=>.ref a
def vU.toD:vU→OT
  | .vi k=>.int k
  | .vb x=>.bool x
  | .vn=>.none
  | .vp _ p q=>.tuple [.int p,.int q]
def vU.ok(K:OU)(F:Hp):vU→Prop
  | .vp a p q=>eV K F a [.int p,.int q]
  | _=>True
theorem vU.ok.mono{K:OU}{F F':Hp}(h:aq F F'){a:vU}(q:a.ok K F):a.ok K F':=by
  cases a<;>first | exact h.tup q | trivial
mutual
def DA(K:OU)(F:Hp):OT→V→Prop
  | .none,v=>v=.non
  | .bool b,v=>v=.bl b
  | .int i,v=>v=.int i
  | .str x,v=>v=.str x
  | .tuple ds,v=>∃a xs,v=.ref a∧eV K F a xs∧aP K F ds xs
  | .list ds,v=>∃a xs,v=.ref a∧iN K F a xs∧aP K F ds xs
  | .dict kvs,v=>∃(a:xM) (m:List (Int × vU)),v=.ref a∧F a=some (.dK (m.map fun p=>(Sum.inl p.1,p.2.toV)))∧kvs=m.map (fun p=>(PyData.int p.1,p.2.toD))∧∀p∈m,p.2.ok K F
def aP(K:OU)(F:Hp):List OT→List V→Prop
  | [],xs=>xs=[]
  | d::ds,xs=>∃x r,xs=x::r∧DA K F d x∧aP K F ds r
end
mutual
theorem DA.mono{K:OU}{F F':Hp}(h:aq F F'):∀{d:OT} {v:V},DA K F d v→DA K F' d v
  | .none,_,q=>by simp only [DA] at q ⊢;exact q
  | .bool b,_,q=>by simp only [DA] at q ⊢;exact q
  | .int i,_,q=>by simp only [DA] at q ⊢;exact q
  | .str x,_,q=>by simp only [DA] at q ⊢;exact q
  | .tuple ds,_,q=>by
    simp only [DA] at q ⊢
    obtain⟨a,xs,e,s,r⟩:=q
    exact⟨a,xs,e,h.tup s,aP.mono h r⟩
  | .list ds,_,q=>by
    simp only [DA] at q ⊢
    obtain⟨a,xs,e,s,r⟩:=q
    exact⟨a,xs,e,h.seq s,aP.mono h r⟩
  | .dict _,_,q=>by
    simp only [DA] at q ⊢
    obtain⟨a,m,e,s,k,o⟩:=q
    exact⟨a,m,e,h _ _ s,k,fun p hp=>(o p hp).mono h⟩
theorem aP.mono{K:OU}{F F':Hp}(h:aq F F'):∀{ds:List OT} {xs:List V},aP K F ds xs→aP K F' ds xs
  | [],_,q=>by simp only [aP] at q ⊢;exact q
  | d::ds,_,q=>by
    simp only [aP] at q ⊢
    obtain⟨x,r,e,a,b⟩:=q
    exact⟨x,r,e,DA.mono h a,aP.mono h b⟩
end
section
variable{K:OU}{F:Hp}
theorem aP.len:∀{ds:List OT} {xs:List V},aP K F ds xs→ds.length=xs.length
  | [],_,q=>by simp only [aP] at q;subst q;rfl
  | d::ds,_,q=>by
    simp only [aP] at q
    obtain⟨x,r,e,a,b⟩:=q
    subst e
    simp [aP.len b]
theorem aP.get:∀{ds:List OT} {xs:List V} {i:Nat} {d:OT},aP K F ds xs→ds[i]?=some d→∃v,xs[i]?=some v∧DA K F d v
  | [],_,_,_,_,h=>by simp at h
  | d::ds,_,i,d',q,h=>by
    simp only [aP] at q
    obtain⟨x,r,e,a,b⟩:=q
    subst e
    cases i with
    | zero=>simp at h;subst h;exact⟨x,rfl,a⟩
    | succ i=>
      obtain⟨v,h1,h2⟩:=aP.get (i:=i) b (by simpa using h)
      exact⟨v,by simpa using h1,h2⟩
theorem aP.append:∀{ds es:List OT} {xs ys:List V},aP K F ds xs→aP K F es ys→aP K F (ds++es) (xs++ys)
  | [],_,_,_,q,s=>by simp only [aP] at q;subst q;simpa using s
  | d::ds,es,_,ys,q,s=>by
    simp only [aP] at q
    obtain⟨x,r,e,a,b⟩:=q
    subst e
    simp only [QF,aP]
    exact⟨x,_,rfl,a,aP.append b s⟩
theorem aP.one{d:OT}{v:V}(h:DA K F d v):aP K F [d] [v]:=by simp only [aP];exact⟨_,_,rfl,h,rfl⟩
theorem aP.nil:aP K F [] []:=by simp only [aP]
theorem aP.cons{d:OT}{v:V}{ds:List OT}{vs:List V}(h:DA K F d v)(r:aP K F ds vs):aP K F (d::ds) (v::vs):=by simp only [aP];exact⟨_,_,rfl,h,r⟩
theorem aP.drop:∀{ds:List OT} {xs:List V} (n:Nat),aP K F ds xs→aP K F (ds.drop n) (xs.drop n)
  | _,_,0,q=>q
  | [],_,n+1,q=>by simp only [aP] at q;subst q;exact aP.nil
  | d::ds,_,n+1,q=>by
    simp only [aP] at q
    obtain⟨x,r,e,a,b⟩:=q
    subst e
    simpa using aP.drop n b
theorem aP.take:∀{ds:List OT} {xs:List V} (n:Nat),aP K F ds xs→aP K F (ds.take n) (xs.take n)
  | _,_,0,q=>by simpa using aP.nil
  | [],_,n+1,q=>by simp only [aP] at q;subst q;exact aP.nil
  | d::ds,_,n+1,q=>by
    simp only [aP] at q
    obtain⟨x,r,e,a,b⟩:=q
    subst e
    simpa using aP.cons a (aP.take n b)
theorem aP.erase:∀{ds:List OT} {xs:List V} (n:Nat),aP K F ds xs→aP K F (ds.eraseIdx n) (xs.eraseIdx n)
  | [],_,_,q=>by simp only [aP] at q;subst q;exact aP.nil
  | e::ds,_,n,q=>by
    simp only [aP] at q
    obtain⟨x,r,e,a,b⟩:=q
    subst e
    cases n with
    | zero=>exact b
    | succ n=>exact aP.cons a (aP.erase n b)
theorem aP.ints:∀{ns:List Int} {xs:List V},aP K F (ns.map .int) xs↔ xs=ns.map V.int
  | [],xs=>by simp [aP]
  | n::ns,xs=>by
    simp only [Pw,aP,DA]
    constructor
    · rintro⟨x,r,e,rfl,q⟩;rw [e,aP.ints.mp q]
    · rintro rfl;exact⟨_,_,rfl,rfl,aP.ints.mpr rfl⟩
theorem aP.bools:∀{ns:List Bool} {xs:List V},aP K F (ns.map .bool) xs↔ xs=ns.map V.bl
  | [],xs=>by simp [aP]
  | n::ns,xs=>by
    simp only [Pw,aP,DA]
    constructor
    · rintro⟨x,r,e,rfl,q⟩;rw [e,aP.bools.mp q]
    · rintro rfl;exact⟨_,_,rfl,rfl,aP.bools.mpr rfl⟩
theorem b6{i:Int}{v:V}:DA K F (.int i) v↔ v=.int i:=by simp only [DA]
theorem dQ{b:Bool}{v:V}:DA K F (.bool b) v↔ v=.bl b:=by simp only [DA]
theorem fB{v:V}:DA K F .none v↔ v=.non:=by simp only [DA]
theorem js{x:Str}{v:V}:DA K F (.str x) v↔ v=.str x:=by simp only [DA]
theorem cN{ds:List OT}{v:V}:DA K F (.tuple ds) v↔ ∃a xs,v=.ref a∧eV K F a xs∧aP K F ds xs:=by simp only [DA]
theorem et{ds:List OT}{v:V}:DA K F (.list ds) v↔ ∃a xs,v=.ref a∧iN K F a xs∧aP K F ds xs:=by simp only [DA]
end
inductive Sv where
  | d (x:OT)
  | l (xs:List OT)
  /-- a list of lists that nobody else holds -/
  | n (xss:List (List OT))
abbrev En:=List (Option Sv)
inductive Rv where
  | d (x:OT)
  | l (xs:List OT)
  | s (i:Nat)
def Fp(σ:L2.St)(e:En)(H:Hp)(i:Nat)(a:xM):Prop:=(∃xs:List OT,e[i]?=some (some (Sv.l xs))∧σ[i]?=some (some (.ref a)))∨
  ∃(xss:List (List OT)) (l:xM) (bs:List xM),e[i]?=some (some (Sv.n xss))∧σ[i]?=some (some (.ref l))∧H l=some (.lst (bs.map V.ref))∧(a=l∨a∈bs)
def bA(σ:L2.St)(e:En)(H:Hp)(a:xM):Prop:=∃i,Fp σ e H i a
structure a_ (K:OU) (F H:Hp) (σ:L2.St) (e:En):Prop where
  sm:aq F H
  len:σ.length=e.length
  dat:∀(i:Nat) (x:OT),e[i]?=some (some (.d x))→∃v,σ[i]?=some (some v)∧DA K F x v
  own:∀(i:Nat) (xs:List OT),e[i]?=some (some (.l xs))→∃l vs,σ[i]?=some (some (.ref l))∧F l=none∧H l=some (.lst vs)∧aP K F xs vs
  nst:∀(i:Nat) (xss:List (List OT)),e[i]?=some (some (.n xss))→∃(l:xM) (bs:List xM),σ[i]?=some (some (.ref l))∧F l=none∧H l=some (.lst (bs.map V.ref))∧bs.length=xss.length∧bs.Nodup∧l∉bs∧
    ∀(k:Nat) (b:xM) (ys:List OT),bs[k]?=some b→xss[k]?=some ys→F b=none∧∃us,H b=some (.lst us)∧aP K F ys us
  fp:∀(i j:Nat) (a:xM),Fp σ e H i a→Fp σ e H j a→i=j
theorem a_.inj{K:OU}{F H:Hp}{σ:L2.St}{e:En}(R:a_ K F H σ e)(i j:Nat)(xs ys:List OT)(l:xM)(h1:e[i]?=some (some (.l xs)))(h2:e[j]?=some (some (.l ys)))(h3:σ[i]?=some (some (.ref l)))(h4:σ[j]?=some (some (.ref l))):i=j:=R.fp i j l (.inl ⟨xs,h1,h3⟩) (.inl ⟨ys,h2,h4⟩)
theorem a_.fpAt{K:OU}{F H:Hp}{σ:L2.St}{e:En}(R:a_ K F H σ e){i:Nat}{a:xM}(h:Fp σ e H i a):F a=none∧∃vs,H a=some (.lst vs):=by
  rcases h with ⟨xs,h1,h2⟩ | ⟨xss,l,bs,h1,h2,h3,h4⟩
  · obtain⟨l,vs,g1,g2,g3,_⟩:=R.own i xs h1
    rw [h2] at g1;cases g1
    exact⟨g2,vs,g3⟩
  · obtain⟨l',bs',g1,g2,g3,g4,g5,g6,g7⟩:=R.nst i xss h1
    rw [h2] at g1;cases g1
    rw [h3] at g3
    have e1:bs=bs':=by
      have:=HO.lst.inj (Qq g3)
      exact List.map_inj_right (fun _ _ z=>V.ref.inj z) |>.mp this
    subst e1
    rcases h4 with rfl | h4
    · exact⟨g2,_,h3⟩
    · obtain⟨k,hk⟩:=Sf h4
      have hk2:k < xss.length:=by rw [←g4];exact(OM hk).1
      obtain⟨c1,us,c2,_⟩:=g7 k a xss[k] hk (QA hk2)
      exact⟨c1,us,c2⟩
def zz:HO→Bool
  | .dK _=>true
  | .ins _ _ _=>true
  | _=>false
abbrev DI:={o:HO // zz o=true}
structure dP (σ:L2.St) (F H:Hp) (e:En) (F' H':Hp) (e':En):Prop where
  sf:aq F F'
  dom:∀a,H' a=none→H a=none
  fr:∀a vs,F a=none→H a=some (.lst vs)→¬bA σ e H a→F' a=none
  lst:∀a vs,H a=some (.lst vs)→∃vs',H' a=some (.lst vs')
  tmp:∀a o,H a=some o→¬bA σ e H a→H' a=some o
  shp:∀i:Nat,(∃xs,e'[i]?=some (some (.l xs)))↔ (∃xs,e[i]?=some (some (.l xs)))
  ow:∀a,bA σ e' H' a→bA σ e H a∨H a=none
  fd:∀a (m:DI),F a=none→H a=some m.1→¬bA σ e H a→F' a=none
theorem dP.refl(σ:L2.St)(F H:Hp)(e:En):dP σ F H e F H e:=⟨aq.refl _,fun _ h=>h,fun _ _ h _ _=>h,fun _ vs h=>⟨vs,h⟩,fun _ _ h _=>h,fun _=>Iff.rfl,fun _ h=>.inl h,fun _ _ h _ _=>h⟩
theorem dP.trans{σ:L2.St}{F H F1 H1 F2 H2:Hp}{e e1 e2:En}(x:dP σ F H e F1 H1 e1)(y:dP σ F1 H1 e1 F2 H2 e2):dP σ F H e F2 H2 e2:=
  ⟨x.sf.trans y.sf,fun a h=>x.dom a (y.dom a h),fun a vs h n no=>let ⟨vs',q⟩:=x.lst a vs n;y.fr a vs' (x.fr a vs h n no) q (fun z=>(x.ow a z).elim no fun z=>by rw [n] at z;cases z),fun a vs h=>let ⟨vs',q⟩:=x.lst a vs h;y.lst a vs' q,
    fun a o h n=>y.tmp a o (x.tmp a o h n) (fun z=>(x.ow a z).elim n fun z=>by rw [h] at z;cases z),fun i=>(y.shp i).trans (x.shp i),fun a h=>(y.ow a h).elim (x.ow a) fun z=>.inr (x.dom a z),fun a m h n no=>y.fd a m (x.fd a m h n no) (x.tmp a _ n no) (fun z=>(x.ow a z).elim no fun z=>by rw [n] at z;cases z)⟩
def cD(K:OU)(σ:L2.St)(H0 F H:Hp)(e:En):Rv→V→Prop
  | .d x,v=>DA K F x v
  | .l xs,v=>∃l vs,v=.ref l∧H0 l=none∧F l=none∧H l=some (.lst vs)∧aP K F xs vs∧¬bA σ e H l
  | .s i,v=>σ[i]?=some (some v)∧∃xs,e[i]?=some (some (.l xs))
section
variable{K:OU}{σ:L2.St}{H0 F H F' H':Hp}{e e':En}{r:Rv}{v:V}
theorem cD.ext(h:cD K σ H0 F H e r v)(x:dP σ F H e F' H' e'):cD K σ H0 F' H' e' r v:=by
  cases r with
  | d y=>exact DA.mono x.sf h
  | l xs=>
    obtain⟨l,vs,e1,h1,h2,h3,h4,h5⟩:=h
    exact⟨l,vs,e1,h1,x.fr l _ h2 h3 h5,x.tmp l _ h3 h5,aP.mono x.sf h4,fun z=>(x.ow l z).elim h5 fun z=>by rw [h3] at z;cases z⟩
  | s i=>exact⟨h.1,(x.shp i).mpr h.2⟩
theorem cD.weak{H1:Hp}(h:cD K σ H1 F H e r v)(d:∀a,H1 a=none→H0 a=none):cD K σ H0 F H e r v:=by
  cases r with
  | d y=>exact h
  | l xs=>
    obtain⟨l,vs,e1,h1,r⟩:=h
    exact⟨l,vs,e1,d l h1,r⟩
  | s i=>exact h
theorem a_.ownH(R:a_ K F H σ e)(a:xM)(h:bA σ e H a):H a≠none:=by
  obtain⟨i,h⟩:=h
  obtain⟨_,vs,h2⟩:=R.fpAt h
  rw [h2];simp
theorem a_.freeF(R:a_ K F H σ e){p:xM}(hp:H p=none):F p=none:=R.sm.free hp
theorem CJ(R:a_ K F H σ e)(h:∀l bs,H l=some (.lst bs)→bA σ e H l→H' l=some (.lst bs)){i:Nat}{a:xM}:Fp σ e H' i a↔ Fp σ e H i a:=by
  have key:∀xss l,e[i]?=some (some (.n xss))→σ[i]?=some (some (.ref l))→H' l=H l:=fun xss l h1 h2=>by
    obtain⟨l',bs,g1,g2,g3,_⟩:=R.nst i xss h1
    rw [h2] at g1;cases g1
    rw [g3]
    exact h l _ g3 ⟨i,.inr ⟨xss,l,bs,h1,h2,g3,.inl rfl⟩⟩
  constructor
  · rintro(h1 | ⟨xss,l,bs,h1,h2,h3,h4⟩)
    · exact .inl h1
    · exact .inr ⟨xss,l,bs,h1,h2,by rw [←key xss l h1 h2];exact h3,h4⟩
  · rintro(h1 | ⟨xss,l,bs,h1,h2,h3,h4⟩)
    · exact .inl h1
    · exact .inr ⟨xss,l,bs,h1,h2,by rw [key xss l h1 h2];exact h3,h4⟩
theorem a_.keep(R:a_ K F H σ e)(sF:aq F F')(sm:aq F' H')(hf:∀a,bA σ e H a→F' a=none)(hh:∀a o,bA σ e H a→H a=some o→H' a=some o):a_ K F' H' σ e∧∀a,bA σ e H' a↔ bA σ e H a:=by
  have fs:∀{i a},Fp σ e H' i a↔ Fp σ e H i a:=fun{i a}=>CJ R fun l bs h1 h2=>hh l _ h2 h1
  refine⟨⟨sm,R.len,fun i x h=>let ⟨v,h1,h2⟩:=R.dat i x h;⟨v,h1,DA.mono sF h2⟩,fun i xs h=>?_,fun i xss h=>?_,fun i j a h1 h2=>R.fp i j a (fs.mp h1) (fs.mp h2)⟩,fun a=>⟨fun⟨i,h⟩=>⟨i,fs.mp h⟩,fun⟨i,h⟩=>⟨i,fs.mpr h⟩⟩⟩
  · obtain⟨l,vs,h1,h2,h3,h4⟩:=R.own i xs h
    have o:bA σ e H l:=⟨i,.inl ⟨xs,h,h1⟩⟩
    exact⟨l,vs,h1,hf l o,hh l _ o h3,h4.mono sF⟩
  · obtain⟨l,bs,h1,h2,h3,h4,h5,h6,h7⟩:=R.nst i xss h
    have o:bA σ e H l:=⟨i,.inr ⟨xss,l,bs,h,h1,h3,.inl rfl⟩⟩
    refine⟨l,bs,h1,hf l o,hh l _ o h3,h4,h5,h6,fun k b ys g1 g2=>?_⟩
    obtain⟨c1,us,c2,c3⟩:=h7 k b ys g1 g2
    have ob:bA σ e H b:=⟨i,.inr ⟨xss,l,bs,h,h1,h3,.inr (OQ g1)⟩⟩
    exact⟨hf b ob,us,hh b _ ob c2,c3.mono sF⟩
theorem a_.same(R:a_ K F H σ e)(s:aq H H'):a_ K F H' σ e∧dP σ F H e F H' e:=by
  obtain⟨R',o'⟩:=R.keep (aq.refl F) (R.sm.trans s) (fun a ⟨i,h⟩=>(R.fpAt h).1) fun a o _ h=>s a o h
  exact⟨R',⟨aq.refl _,fun a h=>s.free h,fun _ _ h _ _=>h,fun a vs h=>⟨vs,s _ _ h⟩,fun a o h _=>s a o h,fun _=>Iff.rfl,fun a h=>.inl ((o' a).mp h),fun _ _ h _ _=>h⟩⟩
theorem a_.freeze(R:a_ K F H σ e){p:xM}{o:HO}(hF:F p=none)(hp:H p=some o)(hn:¬bA σ e H p):a_ K (bE F p o) H σ e∧aq F (bE F p o):=by
  have sF:aq F (bE F p o):=aq.new hF
  refine⟨(R.keep sF (fun b u q=>?_) (fun a ha=>?_) fun _ _ _ h=>h).1,sF⟩
  · by_cases z:b=p
    · subst z;rw [av] at q;cases q;exact hp
    · rw [ax z] at q;exact R.sm _ _ q
  · obtain⟨i,hi⟩:=ha
    have z:a≠p:=fun z=>hn ⟨i,by rw [←z];exact hi⟩
    rw [ax z];exact(R.fpAt hi).1
theorem a_.notOwn(R:a_ K F H σ e){p:xM}{o:HO}(hp:H p=some o)(hl:∀vs,o≠.lst vs):¬bA σ e H p:=fun⟨i,h⟩=>by
  obtain⟨_,vs,g⟩:=R.fpAt h
  rw [hp] at g;cases g
  exact hl _ rfl
theorem a_.newT(R:a_ K F H σ e){p:xM}{vs:List V}(hp:H p=none):a_ K (bE F p (.tup vs)) (bE H p (.tup vs)) σ e∧dP σ F H e (bE F p (.tup vs)) (bE H p (.tup vs)) e:=by
  have hF:=R.freeF hp
  obtain⟨R1,X1⟩:=R.same (aq.new hp (o:=.tup vs))
  obtain⟨R2,s2⟩:=R1.freeze (p:=p) hF av (R1.notOwn av (fun _ z=>nomatch z))
  refine⟨R2,⟨s2,X1.dom,fun a ws h n _=>?_,X1.lst,X1.tmp,X1.shp,X1.ow,fun a ws h n _=>?_⟩⟩
  all_goals
    have z:a≠p:=fun z=>by rw [z,hp] at n;cases n
    rw [ax z];exact h
theorem a_.sameOwn(R:a_ K F H σ e)(s:aq H H')(a:xM):bA σ e H' a↔ bA σ e H a:=(R.keep (aq.refl F) (R.sm.trans s) (fun a ⟨i,h⟩=>(R.fpAt h).1) fun a o _ h=>s a o h).2 a
theorem a_.newL(R:a_ K F H σ e){p:xM}{vs:List V}(hp:H p=none):a_ K F (bE H p (.lst vs)) σ e∧dP σ F H e F (bE H p (.lst vs)) e∧F p=none∧¬bA σ e (bE H p (.lst vs)) p:=
  ⟨(R.same (aq.new hp)).1,(R.same (aq.new hp)).2,R.freeF hp,fun z=>R.ownH p ((R.sameOwn (aq.new hp) p).mp z) hp⟩
theorem a_.growT(R:a_ K F H σ e){p:xM}{xs:List V}(s:aq H H')(hp:eV K H' p xs):∃F',a_ K F' H' σ e∧dP σ F H e F' H' e∧eV K F' p xs:=by
  obtain⟨R1,X1⟩:=R.same s
  rcases hp with hp | hp
  · have key:∀o,H' p=some o→(∀vs,o≠.lst vs)→(∀m:DI,o≠m.1)→(∀G:Hp,G p=some o→Rd G p (.tup xs))→∃F',a_ K F' H' σ e∧dP σ F H e F' H' e∧eV K F' p xs:=by
      intro o ho hl hm hr
      cases q:F p with
      | some u=>
        have:=R1.sm _ _ q
        rw [ho] at this;cases this
        exact⟨F,R1,X1,.inl (hr F q)⟩
      | none=>
        obtain⟨R2,s2⟩:=R1.freeze q ho (R1.notOwn ho hl)
        refine⟨_,R2,⟨s2,X1.dom,fun a ws h n _=>?_,X1.lst,X1.tmp,X1.shp,X1.ow,fun a ws h n _=>?_⟩,.inl (hr _ av)⟩
        · have z:a≠p:=fun z=>by rw [z] at n;rw [s _ _ n] at ho;cases ho;exact hl _ rfl
          rw [ax z];exact h
        · have z:a≠p:=fun z=>by rw [z] at n;rw [s _ _ n] at ho;cases ho;exact hm _ rfl
          rw [ax z];exact h
    rcases hp with hp | ⟨ob,hp⟩
    · exact key _ hp (fun _ z=>nomatch z) (fun m z=>nomatch z ▸ m.2) fun G g=>.inl g
    · exact key _ hp (fun _ z=>nomatch z) (fun m z=>nomatch z ▸ m.2) fun G g=>.inr ⟨ob,g⟩
  · exact⟨F,R1,X1,.inr hp⟩
theorem cD.frozen(R:a_ K F H σ e){xs:List OT}(h:cD K σ H0 F H e (.l xs) v):∃F',a_ K F' H σ e∧aq F F'∧DA K F' (.list xs) v∧(∀a,F a=none→H0 a≠none→F' a=none):=by
  obtain⟨l,vs,rfl,h1,h2,h3,h4,h5⟩:=h
  obtain⟨R2,s2⟩:=R.freeze h2 h3 h5
  refine⟨_,R2,s2,?_,fun a ha hn=>?_⟩
  · rw [et]
    exact⟨l,vs,rfl,.inl (.inl av),aP.mono s2 h4⟩
  · have z:a≠l:=fun z=>hn (by rw [z];exact h1)
    rw [ax z];exact ha
def eU(e:En):Rv→Option (Bool × List OT)
  | .d (.tuple xs)=>some (false,xs)
  | .d (.list xs)=>some (true,xs)
  | .l xs=>some (true,xs)
  | .s i=>match e[i]? with
    | some (some (.l xs))=>some (true,xs)
    | _=>none
  | _=>none
theorem dw(R:a_ K F H σ e)(h:cD K σ H0 F H e r v){b:Bool}{xs:List OT}(q:eU e r=some (b,xs)):
    ∃p vs,v=.ref p∧aP K F xs vs∧(if b=true then iN K H p vs else eV K H p vs):=by
  cases r with
  | d x=>
    cases x with
    | tuple ds=>
      cases q
      obtain⟨a,ys,e1,e2,e3⟩:=cN.mp h
      exact⟨a,ys,e1,e3,R.sm.tup e2⟩
    | list ds=>
      cases q
      obtain⟨a,ys,e1,e2,e3⟩:=et.mp h
      exact⟨a,ys,e1,e3,R.sm.seq e2⟩
    | _=>cases q
  | l ys=>
    cases q
    obtain⟨l,vs,e1,h1,h2,h3,h4,_⟩:=h
    exact⟨l,vs,e1,h4,.inl (.inl h3)⟩
  | s i=>
    obtain⟨h1,ys,h2⟩:=h
    simp only [eU,h2] at q
    cases q
    obtain⟨l,vs,e1,e2,e3,e4⟩:=R.own i _ h2
    rw [h1] at e1;cases e1
    exact⟨l,vs,rfl,e4,.inl (.inl e3)⟩
end
abbrev FE:=En→Option (Rv × En)
abbrev FT:=En→Option (Bool × En)
abbrev FA:=En→Option (List Rv × En)
def em(K:OU)(σ:L2.St)(H0 F H:Hp)(e:En):List Rv→List V→Prop
  | [],vs=>vs=[]
  | r::rs,vs=>∃v ws,vs=v::ws∧cD K σ H0 F H e r v∧em K σ H0 F H e rs ws
def fE(K:OU)(f:FE):TE:=fun σ H Q=>∃F e r e',a_ K F H σ e∧f e=some (r,e')∧∀F' H' v,dP σ F H e F' H' e'→a_ K F' H' σ e'→cD K σ H F' H' e' r v→Q v H'
def fT(K:OU)(f:FT):TT:=fun σ H Q=>∃F e b e',a_ K F H σ e∧f e=some (b,e')∧∀F' H',dP σ F H e F' H' e'→a_ K F' H' σ e'→Q b H'
def fA(K:OU)(f:FA):TA:=fun σ H Q=>∃F e rs e',a_ K F H σ e∧f e=some (rs,e')∧∀F' H' vs,dP σ F H e F' H' e'→a_ K F' H' σ e'→em K σ H F' H' e' rs vs→Q vs H'
theorem PE.mono{X:Cx}{e:OV}{t t':TE}(h:PE X e t)(m:∀σ H Q,t' σ H Q→t σ H Q):PE X e t':=fun pins s σ H Q I q=>h pins s σ H Q I (m σ H Q q)
theorem PT.mono{X:Cx}{e:OV}{t t':TT}(h:PT X e t)(m:∀σ H Q,t' σ H Q→t σ H Q):PT X e t':=fun pins s σ H Q I q=>h pins s σ H Q I (m σ H Q q)
theorem PW.mono{X:Cx}{e:OV}{t t':TT}(h:PW X e t)(m:∀σ H Q,t' σ H Q→t σ H Q):PW X e t':=fun wh pins s σ H Q I q=>h wh pins s σ H Q I (m σ H Q q)
theorem PA.mono{X:Cx}{es:List OV}{t t':TA}(h:PA X es t)(m:∀σ H Q,t' σ H Q→t σ H Q):PA X es t':=fun pos pins s σ H Q I q=>h pos pins s σ H Q I (m σ H Q q)
section
variable{K:OU}{σ:L2.St}{H0 F H F' H':Hp}{e e':En}
theorem em.weak{H1:Hp}(d:∀a,H1 a=none→H0 a=none):∀{rs:List Rv} {vs:List V},em K σ H1 F H e rs vs→em K σ H0 F H e rs vs
  | [],_,h=>h
  | r::rs,_,h=>by
    obtain⟨v,ws,rfl,h1,h2⟩:=h
    exact⟨v,ws,rfl,h1.weak d,em.weak d h2⟩
theorem dP.frz{F'':Hp}(x:dP σ F H e F' H' e')(s:aq F' F'')(h:∀a,F' a=none→H a≠none→F'' a=none):dP σ F H e F'' H' e':=
  ⟨x.sf.trans s,x.dom,fun a vs h1 h2 h3=>h a (x.fr a vs h1 h2 h3) (by rw [h2];simp),x.lst,x.tmp,x.shp,x.ow,fun a m h1 h2 h3=>h a (x.fd a m h1 h2 h3) (by rw [h2];simp)⟩
def gz:List Rv→Option (List OT)
  | []=>some []
  | .d x::rs=>(gz rs).map (x::·)
  | .l xs::rs=>(gz rs).map (.list xs::·)
  | .s _::_=>none
theorem em.frozen:∀{rs:List Rv} {vs:List V} {ds:List OT} {F:Hp},a_ K F H σ e→em K σ H0 F H e rs vs→gz rs=some ds→
    ∃F',a_ K F' H σ e∧aq F F'∧aP K F' ds vs∧(∀a,F a=none→H0 a≠none→F' a=none)
  | [],_,_,F,R,h,q=>by
    cases q
    have h':_=[]:=h
    subst h'
    exact⟨F,R,aq.refl _,aP.nil,fun _ h _=>h⟩
  | .d x::rs,_,ds,F,R,h,q=>by
    obtain⟨v,ws,rfl,h1,h2⟩:=h
    obtain⟨ds',q1,rfl⟩:=OL q
    obtain⟨F',R',s',d',f'⟩:=em.frozen R h2 q1
    exact⟨F',R',s',.cons (DA.mono s' h1) d',f'⟩
  | .l xs::rs,_,ds,F,R,h,q=>by
    obtain⟨v,ws,rfl,h1,h2⟩:=h
    obtain⟨ds',q1,rfl⟩:=OL q
    obtain⟨F',R',s',d',f'⟩:=em.frozen R h2 q1
    obtain⟨l,us,rfl,g1,g2,g3,g4,g5⟩:=h1
    cases hl:F' l with
    | none=>
      have h1':cD K σ H0 F' H e (.l xs) (.ref l):=⟨l,us,rfl,g1,hl,g3,aP.mono s' g4,g5⟩
      obtain⟨F2,R2,s2,d2,f2⟩:=h1'.frozen R'
      exact⟨F2,R2,s'.trans s2,.cons d2 (aP.mono s2 d'),fun a ha hn=>f2 a (f' a ha hn) hn⟩
    | some o=>
      have:=R'.sm _ _ hl
      rw [g3] at this;cases this
      exact⟨F',R',s',.cons (et.mpr ⟨l,us,rfl,.inl (.inl hl),aP.mono s' g4⟩) d',f'⟩
end
section
variable{X:Cx}{K:OU}{a b c:OV}{fa fb:FE}{ft fu:FT}{pos:Pos}{es:List OV}{fs:FA}
def ab(i:Nat):FE:=fun e=>match e[i]? with
  | some (some (.d x))=>some (.d x,e)
  | some (some (.l _))=>some (.s i,e)
  | _=>none
def vC(x:OT):FE:=fun e=>some (.d x,e)
theorem Ee{i:Nat}{σ:L2.St}{H:Hp}{Q:VK}(h:fE K (ab i) σ H Q):oQ i σ H Q:=by
  obtain⟨F,e,r,e',R,hf,q⟩:=h
  unfold ab at hf
  match h1:e[i]?,hf with
  | some (some (.d x)),hf=>
    cases hf
    obtain⟨v,h2,h3⟩:=R.dat i x h1
    exact⟨v,h2,q F H v (dP.refl _ _ _ _) R h3⟩
  | some (some (.n _)),hf=>cases hf
  | some (some (.l xs)),hf=>
    cases hf
    obtain⟨l,vs,h2,h3⟩:=R.own i xs h1
    exact⟨_,h2,q F H _ (dP.refl _ _ _ _) R ⟨h2,xs,h1⟩⟩
  | some none,hf=>cases hf
  | none,hf=>cases hf
theorem qv(i:Nat){x:Str}{pos:Pos}(hN:X.N[i]?=some x)(hv:HP X.env.scope x)(hd:(x==("__debug__":Str))=false)(hcd:(x==("__classdict__":Str))=false):PE X (.Name x pos) (fE K (ab i)):=(aX hN hv hd hcd).mono fun _ _ _ h=>Ee h
theorem vQ{x:OT}{v:V}{σ:L2.St}{H:Hp}{Q:VK}(hx:∀F,DA K F x v)(h:fE K (vC x) σ H Q):tC v σ H Q:=by
  obtain⟨F,e,r,e',R,hf,q⟩:=h
  cases hf
  exact q F H v (dP.refl _ _ _ _) R (hx F)
theorem ae{i j pos}:PE X (.Constant (.int i) j pos) (fE K (vC (.int i))):=GT.mono fun _ _ _ h=>vQ (fun _=>b6.mpr rfl) h
theorem om{b j pos}:PE X (.Constant (.bool b) j pos) (fE K (vC (.bool b))):=IY.mono fun _ _ _ h=>vQ (fun _=>dQ.mpr rfl) h
theorem gu{j pos}:PE X (.Constant .none j pos) (fE K (vC .none)):=GU.mono fun _ _ _ h=>vQ (fun _=>fB.mpr rfl) h
theorem aE{x j pos}:PE X (.Constant (.str x) j pos) (fE K (vC (.str x))):=w_.mono fun _ _ _ h=>vQ (fun _=>js.mpr rfl) h
theorem ya{x:Str}{v:V}{u:OR}{pos:Pos}{y:OT}(hg:Gl X x)(hm:X.mg x=some u)(r:bL v u)(hy:∀F,DA K F y v)(hd:(x==("__debug__":Str))=false):PE X (.Name x pos) (fE K (vC y)):=(Dy hg hm r hd).mono fun _ _ _ h=>vQ hy h
def iy(K:OU)(r:R2)(g:En→Rv→Rv→Option Rv):Prop:=
  ∀(σ:L2.St) (H0 F H:Hp) (e:En) (x y z:Rv) (v u:V) (Q:VK),a_ K F H σ e→cD K σ H0 F H e x v→cD K σ H0 F H e y u→g e x y=some z→
    (∀F' H' w,dP σ F H e F' H' e→a_ K F' H' σ e→cD K σ H F' H' e z w→Q w H')→r v u H Q
def ay(g:En→Rv→Rv→Option Rv)(fa fb:FE):FE:=fun e=>(fa e).bind fun p=>(fb p.2).bind fun q=>(g q.2 p.1 q.1).map fun z=>(z,q.2)
theorem qO{r:R2}{g:En→Rv→Rv→Option Rv}(ho:iy K r g){σ:L2.St}{H:Hp}{Q:VK}(h:fE K (ay g fa fb) σ H Q):HL r (fE K fa) (fE K fb) σ H Q:=by
  obtain⟨F,e,z,e2,R,hf,q⟩:=h
  unfold ay at hf
  obtain⟨⟨x,e1⟩,h1,hf⟩:=OK hf
  obtain⟨⟨y,e2'⟩,h2,hf⟩:=OK hf
  obtain⟨z',h3,hf⟩:=OL hf
  cases hf
  refine⟨F,e,x,e1,R,h1,fun F1 H1 v X1 R1 A1=>⟨F1,e1,y,_,R1,h2,fun F2 H2 u X2 R2 A2=>?_⟩⟩
  have X12:=X1.trans X2
  refine ho σ H F2 H2 _ x y _ v u Q R2 (A1.ext X2) (A2.weak X1.dom) h3 fun F3 H3 w X3 R3 A3=>?_
  exact q F3 H3 w (X12.trans X3) R3 (A3.weak X12.dom)
theorem qk{op:Operator}{r:R2}{g:En→Rv→Rv→Option Rv}(hr:iC X (PR op) r)(ho:iy K r g)(ha:PE X a (fE K fa))(hb:PE X b (fE K fb)):PE X (.BinOp a op b pos) (fE K (ay g fa fb)):=(EI hr ha hb).mono fun _ _ _ h=>qO ho h
theorem G7{op:CmpOp}{r:R2}{g:En→Rv→Rv→Option Rv}(hr:iC X (PZ op) r)(ho:iy K r g)(ha:PE X a (fE K fa))(hb:PE X b (fE K fb))(hm:QC op b=false):PE X (.Compare a [op] [b] pos) (fE K (ay g fa fb)):=(Dx hr ha hb hm).mono fun _ _ _ h=>qO ho h
theorem Je{r:R2}{g:En→Rv→Rv→Option Rv}(hr:Cq X r)(ho:iy K r g)(ha:PE X a (fE K fa))(hb:PE X b (fE K fb))(hs:oU b):PE X (.Subscript a b pos) (fE K (ay g fa fb)):=(EH hr ha hb hs).mono fun _ _ _ h=>qO ho h
def uo(g:En→Rv→Option Rv)(fa:FE):FE:=fun e=>(fa e).bind fun p=>(g p.2 p.1).map fun z=>(z,p.2)
def HH(K:OU)(r:V→Hp→VK→Prop)(g:En→Rv→Option Rv):Prop:=
  ∀(σ:L2.St) (H0 F H:Hp) (e:En) (x z:Rv) (v:V) (Q:VK),a_ K F H σ e→cD K σ H0 F H e x v→g e x=some z→
    (∀F' H' w,dP σ F H e F' H' e→a_ K F' H' σ e→cD K σ H F' H' e z w→Q w H')→r v H Q
theorem B9{r:V→Hp→VK→Prop}{g:En→Rv→Option Rv}(ho:HH K r g){σ:L2.St}{H:Hp}{Q:VK}(h:fE K (uo g fa) σ H Q):Lo r (fE K fa) σ H Q:=by
  obtain⟨F,e,z,e2,R,hf,q⟩:=h
  unfold uo at hf
  obtain⟨⟨x,e1⟩,h1,hf⟩:=OK hf
  obtain⟨z',h3,hf⟩:=OL hf
  cases hf
  refine⟨F,e,x,_,R,h1,fun F1 H1 v X1 R1 A1=>?_⟩
  refine ho σ H F1 H1 _ x _ v Q R1 A1 h3 fun F3 H3 w X3 R3 A3=>?_
  exact q F3 H3 w (X1.trans X3) R3 (A3.weak X1.dom)
theorem Jf{op:UnaryOp}{r:V→Hp→VK→Prop}{g:En→Rv→Option Rv}(hr:J0 X (unaryOp op) r)(ho:HH K r g)(ha:PE X a (fE K fa)):PE X (.UnaryOp op a pos) (fE K (uo g fa)):=(IZ hr ha).mono fun _ _ _ h=>B9 ho h
def cU:Rv→Option Bool
  | .d (.bool b)=>some b
  | _=>none
theorem gT{σ:L2.St}{H0 F H:Hp}{e:En}{r:Rv}{v:V}{b:Bool}(h:cD K σ H0 F H e r v)(q:cU r=some b):v=.bl b:=by
  unfold cU at q
  split at q
  · cases q;exact dQ.mp (show DA K F (.bool _) v from h)
  · cases q
theorem eP{σ:L2.St}{H0 F H:Hp}{e:En}{b:Bool}:cD K σ H0 F H e (.d (.bool b)) (.bl b):=(dQ (K:=K) (F:=F)).mpr rfl
def aA(f:FE):FT:=fun e=>(f e).bind fun p=>(cU p.1).map fun b=>(b,p.2)
theorem vT{σ:L2.St}{H:Hp}{Q:Bool→Hp→Prop}(h:fT K (aA fa) σ H Q):fE K fa σ H fun x H'=>∃k,x=.bl k∧Q k H':=by
  obtain⟨F,e,b,e1,R,hf,q⟩:=h
  unfold aA at hf
  obtain⟨⟨x,e1'⟩,h1,hf⟩:=OK hf
  obtain⟨b',h3,hf⟩:=OL hf
  cases hf
  exact⟨F,e,x,_,R,h1,fun F1 H1 v X1 R1 A1=>⟨_,gT A1 h3,q F1 H1 X1 R1⟩⟩
theorem G9{op:CmpOp}{r:R2}{g:En→Rv→Rv→Option Rv}(hr:iC X (PZ op) r)(ho:iy K r g)(ha:PE X a (fE K fa))(hb:PE X b (fE K fb))(hm:QC op b=false):PT X (.Compare a [op] [b] pos) (fT K (aA (ay g fa fb))):=
  (x9 hr ha hb hm).mono fun σ H Q h=>by
    obtain⟨F,e,z,e2,R,hf,q⟩:=vT h
    exact qO ho ⟨F,e,z,e2,R,hf,q⟩
theorem ik{e:OV}(h:PE X e (fE K fa))(he:∀whole,isTrue e X.env whole=(do let v ←whole;standAt e.pos;holding [v] (truthy v))):PT X e (fT K (aA fa)):=(Bc h he).mono fun _ _ _ h=>vT h
def lI(f g:FT):FT:=fun e=>(f e).bind fun p=>if p.1=true then g p.2 else some (false,p.2)
def ul(f g:FT):FT:=fun e=>(f e).bind fun p=>if p.1=true then some (true,p.2) else g p.2
def lJ(f:FT):FT:=fun e=>(f e).map fun p=>(!p.1,p.2)
theorem Eb{σ:L2.St}{H:Hp}{Q:Bool→Hp→Prop}(h:fT K (lI ft fu) σ H Q):JA (fT K ft) (fT K fu) σ H Q:=by
  obtain⟨F,e,b,e1,R,hf,q⟩:=h
  unfold lI at hf
  obtain⟨⟨x,e1'⟩,h1,hf⟩:=OK hf
  refine⟨F,e,x,e1',R,h1,fun F1 H1 X1 R1=>?_⟩
  cases x with
  | true=>exact⟨F1,e1',b,e1,R1,hf,fun F2 H2 X2 R2=>q F2 H2 (X1.trans X2) R2⟩
  | false=>cases hf;exact q F1 H1 X1 R1
theorem Hz{σ:L2.St}{H:Hp}{Q:Bool→Hp→Prop}(h:fT K (ul ft fu) σ H Q):K0 (fT K ft) (fT K fu) σ H Q:=by
  obtain⟨F,e,b,e1,R,hf,q⟩:=h
  unfold ul at hf
  obtain⟨⟨x,e1'⟩,h1,hf⟩:=OK hf
  refine⟨F,e,x,e1',R,h1,fun F1 H1 X1 R1=>?_⟩
  cases x with
  | false=>exact⟨F1,e1',b,e1,R1,hf,fun F2 H2 X2 R2=>q F2 H2 (X1.trans X2) R2⟩
  | true=>cases hf;exact q F1 H1 X1 R1
theorem Ec{σ:L2.St}{H:Hp}{Q:Bool→Hp→Prop}(h:fT K (lJ ft) σ H Q):JI (fT K ft) σ H Q:=by
  obtain⟨F,e,b,e1,R,hf,q⟩:=h
  unfold lJ at hf
  obtain⟨⟨x,e1'⟩,h1,hf⟩:=OL hf
  cases hf
  exact⟨F,e,x,_,R,h1,fun F1 H1 X1 R1=>q F1 H1 X1 R1⟩
variable{cA:List OV}
theorem t9(ha:PT X a (fT K ft)):PW X (.BoolOp .And [a] pos) (fT K ft):=DL ha
theorem lD(ha:PT X a (fT K ft)):PW X (.BoolOp .Or [a] pos) (fT K ft):=Bd ha
theorem xf(ha:PT X a (fT K ft))(hb:PW X (.BoolOp .And (b::cA) pos) (fT K fu)):PW X (.BoolOp .And (a::b::cA) pos) (fT K (lI ft fu)):=(G2 ha hb).mono fun _ _ _ h=>Eb h
theorem qo(ha:PT X a (fT K ft))(hb:PW X (.BoolOp .Or (b::cA) pos) (fT K fu)):PW X (.BoolOp .Or (a::b::cA) pos) (fT K (ul ft fu)):=(EK ha hb).mono fun _ _ _ h=>Hz h
theorem xc(ha:PT X a (fT K ft)):PT X (.UnaryOp .Not a pos) (fT K (lJ ft)):=(Bb ha).mono fun _ _ _ h=>Ec h
theorem rc{e:OV}(h:PW X e (fT K ft)):PT X e (fT K ft):=h.pt
def jf(f g:FE):FE:=fun e=>(f e).bind fun p=>(cU p.1).bind fun b=>if b=true then g p.2 else some (.d (.bool false),p.2)
def um(f g:FE):FE:=fun e=>(f e).bind fun p=>(cU p.1).bind fun b=>if b=true then some (.d (.bool true),p.2) else g p.2
def mY(f:FE):FE:=fun e=>(f e).bind fun p=>(cU p.1).map fun b=>(.d (.bool (!b)),p.2)
theorem Bk(ha:PE X a (fE K fa))(hb:PE X (.BoolOp .And (b::cA) pos) (fE K fb)):PE X (.BoolOp .And (a::b::cA) pos) (fE K (jf fa fb)):=(GR ha hb).mono fun σ H Q h=>by
  obtain⟨F,e,z,e2,R,hf,q⟩:=h
  unfold jf at hf
  obtain⟨⟨x,e1⟩,h1,hf⟩:=OK hf
  obtain⟨b,h2,hf⟩:=OK hf
  refine⟨F,e,x,e1,R,h1,fun F1 H1 v X1 R1 A1=>⟨b,gT A1 h2,?_⟩⟩
  cases b with
  | true=>exact⟨F1,e1,z,e2,R1,hf,fun F2 H2 w X2 R2 A2=>q F2 H2 w (X1.trans X2) R2 (A2.weak X1.dom)⟩
  | false=>cases hf;exact q F1 H1 _ X1 R1 eP
theorem Bn{op}(h:PE X a (fE K fa)):PE X (.BoolOp op [a] pos) (fE K fa):=GV h
def xB(t:FT)(f g:FE):FE:=fun e=>(t e).bind fun p=>if p.1=true then f p.2 else g p.2
theorem mL{c:OV}(hc:PT X c (fT K ft))(ha:PE X a (fE K fa))(hb:PE X b (fE K fb)):PE X (.IfExp c a b pos) (fE K (xB ft fa fb)):=(vo hc ha hb).mono fun σ H Q h=>by
  obtain⟨F,e,z,e2,R,hf,q⟩:=h
  unfold xB at hf
  obtain⟨⟨x,e1⟩,h1,hf⟩:=OK hf
  refine⟨F,e,x,e1,R,h1,fun F1 H1 X1 R1=>?_⟩
  cases x with
  | true=>exact⟨F1,e1,z,e2,R1,hf,fun F2 H2 w X2 R2 A2=>q F2 H2 w (X1.trans X2) R2 (A2.weak X1.dom)⟩
  | false=>exact⟨F1,e1,z,e2,R1,hf,fun F2 H2 w X2 R2 A2=>q F2 H2 w (X1.trans X2) R2 (A2.weak X1.dom)⟩
def ah:FA:=fun e=>some ([],e)
def aa(fa:FE)(fs:FA):FA:=fun e=>(fa e).bind fun p=>(fs p.2).map fun q=>(p.1::q.1,q.2)
theorem ac:PA X [] (fA K ah):=ig.mono fun σ H Q h=>by
  obtain⟨F,e,r,e',R,hf,q⟩:=h
  cases hf
  exact q F H [] (dP.refl _ _ _ _) R rfl
theorem KM(ha:PE X a (fE K fa))(hr:PA X es (fA K fs))(h:Rl a=false):PA X (a::es) (fA K (aa fa fs)):=(vm ha hr h).mono fun σ H Q h=>by
  obtain⟨F,e,z,e2,R,hf,q⟩:=h
  unfold aa at hf
  obtain⟨⟨x,e1⟩,h1,hf⟩:=OK hf
  obtain⟨⟨xs,e2'⟩,h2,hf⟩:=OL hf
  cases hf
  refine⟨F,e,x,e1,R,h1,fun F1 H1 v X1 R1 A1=>⟨F1,e1,xs,_,R1,h2,fun F2 H2 vs X2 R2 A2=>?_⟩⟩
  exact q F2 H2 (v::vs) (X1.trans X2) R2 ⟨v,vs,rfl,A1.ext X2,A2.weak X1.dom⟩
def cM(fs:FA):FE:=fun e=>(fs e).bind fun p=>(gz p.1).bind fun ds=>if ds.length≤1000 then some (.d (.tuple ds),p.2) else none
def ek(fs:FA):FE:=fun e=>(fs e).bind fun p=>(gz p.1).bind fun ds=>if ds.length≤1000 then some (.l ds,p.2) else none
theorem bC{x1}(h:PA X es (fA K fs)):PE X (.Tuple es x1 pos) (fE K (cM fs)):=(A0 h).mono fun σ H Q h=>by
  obtain⟨F,e,z,e2,R,hf,q⟩:=h
  unfold cM at hf
  obtain⟨⟨rs,e1⟩,h1,hf⟩:=OK hf
  obtain⟨ds,h2,hf⟩:=OK hf
  split at hf
  case isFalse=>cases hf
  case isTrue hl=>
  cases hf
  refine⟨F,e,rs,_,R,h1,fun F1 H1 vs X1 R1 A1=>?_⟩
  obtain⟨F2,R2,s2,d2,f2⟩:=em.frozen R1 A1 h2
  have hlen:=d2.len
  refine⟨Rw (sv (by lia)),fun p hp=>?_⟩
  obtain⟨R3,X3⟩:=R2.newT (vs:=vs) hp
  exact q _ _ _ ((X1.frz s2 f2).trans X3) R3 (cN.mpr ⟨p,vs,rfl,.inl (.inl av),aP.mono X3.sf d2⟩)
theorem cG(h:PA X es (fA K fs)):PE X (.List es pos) (fE K (ek fs)):=(wZ h).mono fun σ H Q h=>by
  obtain⟨F,e,z,e2,R,hf,q⟩:=h
  unfold ek at hf
  obtain⟨⟨rs,e1⟩,h1,hf⟩:=OK hf
  obtain⟨ds,h2,hf⟩:=OK hf
  split at hf
  case isFalse=>cases hf
  case isTrue hl=>
  cases hf
  refine⟨F,e,rs,_,R,h1,fun F1 H1 vs X1 R1 A1=>?_⟩
  obtain⟨F2,R2,s2,d2,f2⟩:=em.frozen R1 A1 h2
  have hlen:=d2.len
  refine⟨Rw (sv (by lia)),fun p hp=>?_⟩
  obtain⟨R3,X3,hF,no⟩:=R2.newL (vs:=vs) hp
  exact q _ _ _ ((X1.frz s2 f2).trans X3) R3 ⟨p,vs,rfl,X1.dom p hp,hF,av,d2,no⟩
def dz(K:OU)(r:List V→Hp→VK→Prop)(g:En→List Rv→Option Rv):Prop:=
  ∀(σ:L2.St) (H0 F H:Hp) (e:En) (xs:List Rv) (z:Rv) (vs:List V) (Q:VK),a_ K F H σ e→em K σ H0 F H e xs vs→g e xs=some z→
    (∀F' H' w,dP σ F H e F' H' e→a_ K F' H' σ e→cD K σ H F' H' e z w→Q w H')→r vs H Q
def az(g:En→List Rv→Option Rv)(fs:FA):FE:=fun e=>(fs e).bind fun p=>(g p.2 p.1).map fun z=>(z,p.2)
theorem vR{r:List V→Hp→VK→Prop}{g:En→List Rv→Option Rv}(ho:dz K r g){σ:L2.St}{H:Hp}{Q:VK}(h:fE K (az g fs) σ H Q):J5 r (fA K fs) σ H Q:=by
  obtain⟨F,e,z,e2,R,hf,q⟩:=h
  unfold az at hf
  obtain⟨⟨x,e1⟩,h1,hf⟩:=OK hf
  obtain⟨z',h3,hf⟩:=OL hf
  cases hf
  refine⟨F,e,x,_,R,h1,fun F1 H1 vs X1 R1 A1=>?_⟩
  refine ho σ H F1 H1 _ x _ vs Q R1 A1 h3 fun F3 H3 w X3 R3 A3=>?_
  exact q F3 H3 w (X1.trans X3) R3 (A3.weak X1.dom)
theorem Bm{x:Str}{p pos:Pos}{id:String}{r:List V→Hp→VK→Prop}{g:En→List Rv→Option Rv}(hc:dB X (.builtin id) r)(ho:dz K r g)(hg:Gl X x)(hm:X.mg x=none)(hv:QK x=some (.builtin id))(ha:PA X (a::es) (fA K fs))(hn:x≠"__name__")(hdb:(x==("__debug__":Str))=false)
    (he:Pd (a::es) X.env=(false,Pf a X.env)::Pd es X.env)(hpl:(Po pos (Pd es X.env)).any (·.1)=false):PE X (.Call (.Name x p) (a::es) [] pos) (fE K (az g fs)):=(qe hc hg hm hv ha hn hdb he hpl).mono fun _ _ _ h=>vR ho h
theorem y9{x:Str}{p pos:Pos}{T:String}{r:List V→Hp→VK→Prop}{g:En→List Rv→Option Rv}(hc:dB X (.type T) r)(ho:dz K r g)(hg:Gl X x)(hm:X.mg x=none)(hv:QK x=some (.type T))(ha:PA X (a::es) (fA K fs))(hn:x≠"__name__")(hdb:(x==("__debug__":Str))=false)
    (he:Pd (a::es) X.env=(false,Pf a X.env)::Pd es X.env)(hpl:(Po pos (Pd es X.env)).any (·.1)=false):PE X (.Call (.Name x p) (a::es) [] pos) (fE K (az g fs)):=(rY hc hg hm hv ha hn hdb he hpl).mono fun _ _ _ h=>vR ho h
end
mutual
theorem DA.reads{X:Cx}{pins:List (xM × Obj)}{σ:L2.St}{H:Hp}{s:OS}(I:aM X pins σ H s):∀{d:OT} {v:V} {u:OR},d.canLay0=true→DA X.K H d v→bL v u→∃as,Reads s.heap u d as
  | .none,_,_,_,q,r=>by
    simp only [DA] at q;subst q;cases r;exact⟨_,.none⟩
  | .bool b,_,_,_,q,r=>by
    simp only [DA] at q;subst q;cases r;exact⟨_,.bool b⟩
  | .int i,_,_,_,q,r=>by
    simp only [DA] at q;subst q;obtain⟨t,rfl⟩:=r;exact⟨_,.int i t⟩
  | .str x,_,_,_,q,r=>by
    simp only [DA] at q;subst q;obtain⟨t,rfl⟩:=r;exact⟨_,.str x t⟩
  | .tuple ds,_,_,c,q,r=>by
    simp only [DA] at q
    obtain⟨a,xs,e,hs,rr⟩:=q
    subst e;cases r
    obtain⟨its,rv,⟨o,ho,hc,n,hd⟩,hz⟩:=I.tuple hs
    obtain⟨as,q⟩:=aP.reads I (by simpa [PM] using c) rr rv
    exact⟨_,.tuple ho hc hd q⟩
  | .list ds,_,_,c,q,r=>by
    simp only [DA] at q
    obtain⟨a,xs,e,hs,rr⟩:=q
    subst e;cases r
    obtain⟨its,rv,ht,hz⟩:=I.list hs
    obtain⟨o,ho,hc,n,hd⟩:=ht.isList
    obtain⟨as,q⟩:=aP.reads I (by simpa [PM] using c) rr rv
    exact⟨_,.list ho hc hd q⟩
  | .dict _,_,_,c,_,_=>by simp [PM] at c
theorem aP.reads{X:Cx}{pins:List (xM × Obj)}{σ:L2.St}{H:Hp}{s:OS}(I:aM X pins σ H s):∀{ds:List OT} {xs:List V} {us:List OR},Qp ds=true→aP X.K H ds xs→aV xs us→∃as,ReadsAll s.heap us ds as
  | [],_,_,_,q,r=>by
    simp only [aP] at q;subst q;cases r;exact⟨_,.nil⟩
  | d::ds,_,_,c,q,r=>by
    simp only [aP] at q
    simp only [Qp,PV] at c
    obtain⟨x,rr,e,a,b⟩:=q
    subst e
    cases r with
    | cons p p'=>
      obtain⟨as,q1⟩:=DA.reads I c.1 a p
      obtain⟨bs,q2⟩:=aP.reads I c.2 b p'
      exact⟨_,.cons q1 q2⟩
end
def hU(e:En):Rv→Option OT
  | .d x=>some x
  | .l xs=>some (.list xs)
  | .s i=>match e[i]? with
    | some (some (.l xs))=>some (.list xs)
    | _=>none
theorem j1{K:OU}{σ:L2.St}{H0 F H:Hp}{e:En}{r:Rv}{v:V}{d:OT}(R:a_ K F H σ e)(h:cD K σ H0 F H e r v)(q:hU e r=some d):DA K H d v:=by
  cases r with
  | d x=>cases q;exact DA.mono R.sm h
  | l xs=>
    cases q
    obtain⟨l,vs,rfl,h1,h2,h3,h4,_⟩:=h
    exact et.mpr ⟨l,vs,rfl,.inl (.inl h3),aP.mono R.sm h4⟩
  | s i=>
    obtain⟨h1,ys,h2⟩:=h
    simp only [hU,h2] at q
    cases q
    obtain⟨l,vs,e1,e2,e3,e4⟩:=R.own i _ h2
    rw [h1] at e1;cases e1
    exact et.mpr ⟨l,vs,rfl,.inl (.inl e3),aP.mono R.sm e4⟩
section
variable{X:Cx}{K:OU}
def cK:Rv→Option Int
  | .d (.int i)=>some i
  | _=>none
theorem dJ{σ:L2.St}{H0 F H:Hp}{e:En}{r:Rv}{v:V}{i:Int}(h:cD K σ H0 F H e r v)(q:cK r=some i):v=.int i:=by
  unfold cK at q
  split at q
  · cases q;exact b6.mp (show DA K F (.int _) v from h)
  · cases q
theorem qr{σ:L2.St}{H0 F H:Hp}{e:En}{i:Int}:cD K σ H0 F H e (.d (.int i)) (.int i):=(b6 (K:=K) (F:=F)).mpr rfl
def gI(C:Int→Int→Bool)(f:Int→Int→OT):En→Rv→Rv→Option Rv:=fun _ x y=>(cK x).bind fun i=>(cK y).bind fun j=>if C i j=true then some (.d (f i j)) else none
theorem vk{C:Int→Int→Prop}{c:Int→Int→Bool}{g:Int→Int→V}{f:Int→Int→OT}(hc:∀i j,c i j=true→C i j)(hf:∀F i j,DA K F (f i j) (g i j)):iy K (rI C g) (gI c f):=by
  intro σ H0 F H e x y z v u Q R A B hg q
  unfold gI at hg
  obtain⟨i,h1,hg⟩:=OK hg
  obtain⟨j,h2,hg⟩:=OK hg
  split at hg
  case isFalse=>cases hg
  case isTrue hh=>
  cases hg
  exact⟨i,j,dJ A h1,dJ B h2,hc i j hh,q F H _ (dP.refl _ _ _ _) R (hf F i j)⟩
theorem lA{g:Int→Int→V}{f:Int→Int→OT}(hf:∀F i j,DA K F (f i j) (g i j)):iy K (zb g) (gI (fun _ _=>true) f):=by
  intro σ H0 F H e x y z v u Q R A B hg q
  obtain⟨i,j,h1,h2,h3,h4⟩:=vk (K:=K) (C:=fun _ _=>True) (c:=fun _ _=>true) (g:=g) (f:=f) (fun _ _ _=>trivial) hf σ H0 F H e x y z v u Q R A B hg q
  exact⟨i,j,h1,h2,h4⟩
def Cg(g g':En→Rv→Rv→Option Rv):En→Rv→Rv→Option Rv:=fun e x y=>(g e x y).or (g' e x y)
theorem iy.or{r r':R2}{g g':En→Rv→Rv→Option Rv}(h:iy K r g)(h':iy K r' g'):iy K (fun x y H Q=>r x y H Q∨r' x y H Q) (Cg g g'):=by
  intro σ H0 F H e x y z v u Q R A B hg q
  unfold Cg at hg
  cases e1:g e x y with
  | some w=>
    rw [e1] at hg
    cases hg
    exact .inl (h σ H0 F H e x y _ v u Q R A B e1 q)
  | none=>
    rw [e1] at hg
    exact .inr (h' σ H0 F H e x y _ v u Q R A B hg q)
def xQ:=gI (fun _ _=>true) fun i j=>.int (i+j)
def m9:=gI (fun _ _=>true) fun i j=>.int (i - j)
def jN(i:Int):Bool:=decide (-(2 ^ 64) < i)&&decide (i < 2 ^ 64)
def HY(n:Nat)(i:Int):Bool:=decide (i.natAbs < 2 ^ n)
theorem lO{n:Nat}{i:Int}:HY n i=true↔ Bt n i:=by unfold HY Bt;exact decide_eq_true_iff
def nu(i j:Int):Bool:=jN i || jN j || (HY 4000 i&&HY 4000 j)
def z_:=gI nu fun i j=>.int (i*j)
def hV:=gI (fun _ j=>j != 0&&HY 8000 j) fun i j=>.int (i.fdiv j)
def bD:=gI (fun _ j=>j != 0) fun i j=>.int (i.fmod j)
def A8(i j:Int):Bool:=decide (0≤j)&&decide (j≤1000000)&&jN i
def wz:=gI A8 fun i j=>.int (i ^ j.toNat)
theorem lF{i:Int}(h:jN i=true): -(2 ^ 64) < i∧i < 2 ^ 64:=by
  unfold jN at h
  rw [PV,decide_eq_true_iff,decide_eq_true_iff] at h
  exact h
theorem DG{i j:Int}(h:A8 i j=true):E_ i j:=by
  unfold A8 at h
  rw [PV,PV,decide_eq_true_iff,decide_eq_true_iff] at h
  have:=lF h.2
  exact⟨h.1.1,h.1.2,by lia⟩
def xD(i j:Int):Prop:=Cn i j∨Ei i j
theorem Dq:iC X (PR .Mult) (rI xD fun i j=>.int (i*j)):=by
  intro pins s σ H x y v u Q I rx ry h
  obtain⟨i,j,e1,e2,h1,q⟩:=h
  rcases h1 with h1 | h1
  · exact GM pins s σ H x y v u Q I rx ry ⟨i,j,e1,e2,h1,q⟩
  · exact Dr pins s σ H x y v u Q I rx ry ⟨i,j,e1,e2,h1,q⟩
theorem Dd{i j:Int}(h:nu i j=true):xD i j:=by
  unfold nu at h
  rw [Bool.or_eq_true,Bool.or_eq_true,PV] at h
  rcases h with (h | h) | h
  · exact .inl (.inl (lF h))
  · exact .inl (.inr (lF h))
  · exact .inr ⟨lO.mp h.1,lO.mp h.2⟩
theorem Gs:iy K (rI xD fun i j=>.int (i*j)) z_:=vk (fun _ _ h=>Dd h) fun _ _ _=>b6.mpr rfl
theorem Jy:iy K (zb fun i j=>.int (i - j)) m9:=lA fun _ _ _=>b6.mpr rfl
theorem Fz:iy K (rI Eh fun i j=>.int (i.fdiv j)) hV:=vk (fun i j h=>by
  rw [PV] at h
  exact⟨by simpa using h.1,lO.mp h.2⟩) fun _ _ _=>b6.mpr rfl
theorem IP:iy K (rI (fun _ j=>j≠0) fun i j=>.int (i.fmod j)) bD:=vk (fun i j h=>by simpa using h) fun _ _ _=>b6.mpr rfl
theorem I_:iy K (rI E_ fun i j=>.int (i ^ j.toNat)) wz:=vk (fun _ _ h=>DG h) fun _ _ _=>b6.mpr rfl
def pO:En→Rv→Rv→Option Rv:=fun e x y=>match eU e x,eU e y with
  | some (false,xs),some (false,ys)=>if xs.length+ys.length≤1000000 then some (.d (.tuple (xs++ys))) else none
  | _,_=>none
theorem Fs:iy K (Bv K) pO:=by
  intro σ H0 F H e x y z v u Q R A B hg q
  unfold pO at hg
  match h1:eU e x,h2:eU e y,hg with
  | some (false,xs),some (false,ys),hg=>
    obtain⟨p,vs,rfl,d1,s1⟩:=dw R A h1
    obtain⟨p',us,rfl,d2,s2⟩:=dw R B h2
    dsimp only at hg
    split at hg
    case isFalse=>cases hg
    case isTrue hl=>
    cases hg
    have l1:=d1.len
    have l2:=d2.len
    have sl:Pk=16777216:=Qg
    refine⟨p,p',vs,us,rfl,rfl,s1,s2,by lia,fun t H' sm hT=>?_⟩
    obtain⟨F',R',X',hF⟩:=R.growT sm hT
    exact q F' H' _ X' R' (cN.mpr ⟨t,_,rfl,hF,(d1.append d2).mono X'.sf⟩)
def Av(e:En):Rv→Option (List OT)
  | .l xs=>some xs
  | .s i=>match e[i]? with
    | some (some (.l xs))=>some xs
    | _=>none
  | _=>none
theorem tQ{σ:L2.St}{H0 F H:Hp}{e:En}{r:Rv}{v:V}(R:a_ K F H σ e)(h:cD K σ H0 F H e r v){xs:List OT}(q:Av e r=some xs):∃p vs,v=.ref p∧F p=none∧H p=some (.lst vs)∧aP K F xs vs:=by
  cases r with
  | d x=>cases q
  | l ys=>
    cases q
    obtain⟨l,vs,e1,h1,h2,h3,h4,_⟩:=h
    exact⟨l,vs,e1,h2,h3,h4⟩
  | s i=>
    obtain⟨h1,ys,h2⟩:=h
    simp only [Av,h2] at q
    cases q
    obtain⟨l,vs,e1,e2,e3,e4⟩:=R.own i _ h2
    rw [h1] at e1;cases e1
    exact⟨l,vs,rfl,e2,e3,e4⟩
def xR:En→Rv→Rv→Option Rv:=fun e x y=>(Av e x).bind fun xs=>(Av e y).bind fun ys=>if xs.length+ys.length≤1000000 then some (.l (xs++ys)) else none
theorem Fq:iy K G' xR:=by
  intro σ H0 F H e x y z v u Q R A B hg q
  unfold xR at hg
  obtain⟨xs,h1,hg⟩:=OK hg
  obtain⟨ys,h2,hg⟩:=OK hg
  split at hg
  case isFalse=>cases hg
  case isTrue hl=>
  cases hg
  obtain⟨p,vs,rfl,f1,s1,d1⟩:=tQ R A h1
  obtain⟨p',us,rfl,f2,s2,d2⟩:=tQ R B h2
  have l1:=d1.len
  have l2:=d2.len
  have sl:Pk=16777216:=Qg
  refine⟨p,p',vs,us,rfl,rfl,s1,s2,by lia,fun t ht=>?_⟩
  obtain⟨R3,X3,hF,no⟩:=R.newL (vs:=vs++us) ht
  exact q _ _ _ X3 R3 ⟨t,_,rfl,ht,hF,av,d1.append d2,no⟩
def cV:En→Rv→Rv→Option Rv:=Cg xQ (Cg pO xR)
def ER(K:OU):R2:=fun x y H Q=>zb (fun i j=>.int (i+j)) x y H Q∨(Bv K x y H Q∨G' x y H Q)
theorem xY:iC X (PR .Add) (ER X.K):=GF.or (Dm.or GG)
theorem Em:iy K (ER K) cV:=iy.or (lA fun _ _ _=>b6.mpr rfl) (iy.or Fs Fq)
def Ab:En→Rv→Rv→Option Rv:=fun e x y=>match eU e x,cK y with
  | some (false,[d]),some k=>if 0≤k∧k≤100000 then some (.d (.tuple (Pi k.toNat d))) else none
  | _,_=>none
theorem aP.rep{F:Hp}{d:OT}{v:V}(h:DA K F d v):∀n,aP K F (Pi n d) (Pi n v)
  | 0=>aP.nil
  | n+1=>aP.cons h (aP.rep h n)
theorem Hh:iy K (Bz K) Ab:=by
  intro σ H0 F H e x y z v u Q R A B hg q
  unfold Ab at hg
  match h1:eU e x,h2:cK y,hg with
  | some (false,[d]),some k,hg=>
    obtain⟨p,vs,rfl,d1,s1⟩:=dw R A h1
    dsimp only at hg
    split at hg
    case isFalse=>cases hg
    case isTrue hl=>
    cases hg
    have hd:=d1
    simp only [aP] at hd
    obtain⟨w,r,e1,hw,e2⟩:=hd
    subst e2 e1
    refine⟨p,k,w,rfl,dJ B h2,s1,hl.1,hl.2,fun t H' sm hT=>?_⟩
    obtain⟨F',R',X',hF⟩:=R.growT sm hT
    exact q F' H' _ X' R' (cN.mpr ⟨t,_,rfl,hF,(aP.rep hw _).mono X'.sf⟩)
def Aa:En→Rv→Rv→Option Rv:=fun e x y=>(Av e x).bind fun xs=>(cK y).bind fun k=>if -100000≤k∧k≤100000∧xs.length*k.toNat≤1000000 then some (.l (Pi k.toNat xs).flatten) else none
theorem aP.reps{F:Hp}{ds:List OT}{vs:List V}(h:aP K F ds vs):∀n,aP K F (Pi n ds).flatten (Pi n vs).flatten
  | 0=>aP.nil
  | n+1=>by simpa [Rk] using aP.append h (aP.reps h n)
theorem Hf:iy K Hd Aa:=by
  intro σ H0 F H e x y z v u Q R A B hg q
  unfold Aa at hg
  obtain⟨xs,h1,hg⟩:=OK hg
  obtain⟨k,h2,hg⟩:=OK hg
  split at hg
  case isFalse=>cases hg
  case isTrue hl=>
  cases hg
  obtain⟨p,vs,rfl,f1,s1,d1⟩:=tQ R A h1
  have l1:=d1.len
  have sl:Pk=16777216:=Qg
  refine⟨p,k,vs,rfl,dJ B h2,s1,by lia,by lia,by rw [←l1];lia,fun t ht=>?_⟩
  obtain⟨R3,X3,hF,no⟩:=R.newL (vs:=(Pi k.toNat vs).flatten) ht
  exact q _ _ _ X3 R3 ⟨t,_,rfl,ht,hF,av,aP.reps d1 _,no⟩
def pQ:En→Rv→Rv→Option Rv:=Cg z_ (Cg Ab Aa)
def EU(K:OU):R2:=fun x y H Q=>rI xD (fun i j=>.int (i*j)) x y H Q∨(Bz K x y H Q∨Hd x y H Q)
theorem Dp:iC X (PR .Mult) (EU X.K):=Dq.or (Dt.or GP)
theorem IQ:iy K (EU K) pQ:=iy.or Gs (iy.or Hh Hf)
def EA:=gI (fun _ _=>true) fun i j=>.bool (decide (i < j))
def LL:=gI (fun _ _=>true) fun i j=>.bool (decide (i≤j))
def Ey:=gI (fun _ _=>true) fun i j=>.bool (decide (j < i))
def Ex:=gI (fun _ _=>true) fun i j=>.bool (decide (j≤i))
theorem KL:iy K (zb fun i j=>.bl (decide (i < j))) EA:=lA fun _ _ _=>dQ.mpr rfl
theorem Ky:iy K (zb fun i j=>.bl (decide (j < i))) Ey:=lA fun _ _ _=>dQ.mpr rfl
theorem Kx:iy K (zb fun i j=>.bl (decide (j≤i))) Ex:=lA fun _ _ _=>dQ.mpr rfl
def Hb(K:OU)(neg:Bool):R2:=fun x y H Q=>∃a b,DA K H a x∧DA K H b y∧PH a=true∧PH b=true∧Q (.bl (if neg then !PyData.eqv a b else Qt a b)) H
theorem GH{k:Nat}(hr:bG k X.A):iC X (PZ .Eq) (Hb X.K false):=by
  intro pins s σ H x y v u Q I rx ry h
  obtain⟨a,b,ha,hb,s1,s2,q⟩:=h
  obtain⟨as,ra⟩:=DA.reads I (SM s1) ha rx
  obtain⟨bs,rb⟩:=DA.reads I (SM s2) hb ry
  exact SeqAt.compareEq_shaped ra rb s1 s2 hr.units ⟨.bl _,H,I,rfl,q⟩
theorem GN{k:Nat}(hr:bG k X.A):iC X (PZ .NotEq) (Hb X.K true):=by
  intro pins s σ H x y v u Q I rx ry h
  obtain⟨a,b,ha,hb,s1,s2,q⟩:=h
  obtain⟨as,ra⟩:=DA.reads I (SM s1) ha rx
  obtain⟨bs,rb⟩:=DA.reads I (SM s2) hb ry
  exact SeqAt.compareNe_shaped ra rb s1 s2 hr.units ⟨.bl _,H,I,rfl,q⟩
def bi(neg:Bool):En→Rv→Rv→Option Rv:=fun e x y=>(hU e x).bind fun a=>(hU e y).bind fun b=>if (PH a&&PH b)=true then some (.d (.bool (if neg then !PyData.eqv a b else Qt a b))) else none
theorem Eu{neg:Bool}:iy K (Hb K neg) (bi neg):=by
  intro σ H0 F H e x y z v u Q R A B hg q
  unfold bi at hg
  obtain⟨a,h1,hg⟩:=OK hg
  obtain⟨b,h2,hg⟩:=OK hg
  split at hg
  case isFalse=>cases hg
  case isTrue hl=>
  cases hg
  rw [PV] at hl
  exact⟨a,b,j1 R A h1,j1 R B h2,hl.1,hl.2,q F H _ (dP.refl _ _ _ _) R eP⟩
def Hc(K:OU)(neg:Bool):R2:=fun x y H Q=>∃a xs,DA K H a x∧(DA K H (.list xs) y∨DA K H (.tuple xs) y)∧a.canLay0=true∧a.depth≤60∧Qp xs=true∧Q (.bl (if neg then !(xs.any fun y=>Qt y a) else xs.any fun y=>Qt y a)) H
theorem GI{k:Nat}(hr:bG k X.A):iC X (PZ .In) (Hc X.K false):=by
  intro pins s σ H x y v u Q I rx ry h
  obtain⟨a,xs,ha,hb,s1,s2,s3,q⟩:=h
  obtain⟨as,ra⟩:=DA.reads I s1 ha rx
  have hu:=hr.units
  rcases hb with hb | hb
  · obtain⟨bs,rb⟩:=DA.reads I (by simpa [PM] using s3) hb ry
    exact PySem.SeqAt.in_list_reads rb ra s3 s1 (by lia) ⟨.bl _,H,I,rfl,q⟩
  · obtain⟨bs,rb⟩:=DA.reads I (by simpa [PM] using s3) hb ry
    exact PySem.SeqAt.in_tuple_reads rb ra s3 s1 (by lia) ⟨.bl _,H,I,rfl,q⟩
theorem y4{k:Nat}(hr:bG k X.A):iC X (PZ .NotIn) (Hc X.K true):=by
  intro pins s σ H x y v u Q I rx ry h
  obtain⟨a,xs,ha,hb,s1,s2,s3,q⟩:=h
  obtain⟨as,ra⟩:=DA.reads I s1 ha rx
  have hu:=hr.units
  rcases hb with hb | hb
  · obtain⟨bs,rb⟩:=DA.reads I (by simpa [PM] using s3) hb ry
    exact PySem.SeqAt.notIn_list_reads rb ra s3 s1 (by lia) ⟨.bl _,H,I,rfl,q⟩
  · obtain⟨bs,rb⟩:=DA.reads I (by simpa [PM] using s3) hb ry
    exact PySem.SeqAt.notIn_tuple_reads rb ra s3 s1 (by lia) ⟨.bl _,H,I,rfl,q⟩
def tF(neg:Bool):En→Rv→Rv→Option Rv:=fun e x y=>(hU e x).bind fun a=>(eU e y).bind fun p=>if (a.canLay0&&decide (a.depth≤60)&&Qp p.2)=true then some (.d (.bool (if neg then !(p.2.any fun y=>Qt y a) else p.2.any fun y=>Qt y a))) else none
theorem Im{neg:Bool}:iy K (Hc K neg) (tF neg):=by
  intro σ H0 F H e x y z v u Q R A B hg q
  unfold tF at hg
  obtain⟨a,h1,hg⟩:=OK hg
  obtain⟨⟨b,xs⟩,h2,hg⟩:=OK hg
  split at hg
  case isFalse=>cases hg
  case isTrue hl=>
  cases hg
  rw [PV,PV,decide_eq_true_iff] at hl
  obtain⟨p,vs,rfl,d1,s1⟩:=dw R B h2
  refine⟨a,xs,j1 R A h1,?_,hl.1.1,hl.1.2,hl.2,q F H _ (dP.refl _ _ _ _) R eP⟩
  cases b with
  | true=>exact .inl (et.mpr ⟨p,vs,rfl,s1,d1.mono R.sm⟩)
  | false=>exact .inr (cN.mpr ⟨p,vs,rfl,s1,d1.mono R.sm⟩)
def tK:OT→Bool
  | .none=>true
  | _=>false
theorem rG{F:Hp}{d:OT}{v:V}(h:DA K F d v):decide (v=.non)=tK d:=by
  cases d with
  | none=>rw [fB.mp h];rfl
  | bool b=>rw [dQ.mp h];rfl
  | int b=>rw [b6.mp h];rfl
  | str b=>rw [js.mp h];rfl
  | tuple b=>obtain⟨a,_,e,_⟩:=cN.mp h;rw [e];rfl
  | list b=>obtain⟨a,_,e,_⟩:=et.mp h;rw [e];rfl
  | dict b=>simp only [DA] at h;obtain⟨a,m,rfl,_⟩:=h;rfl
def yK(neg:Bool):En→Rv→Rv→Option Rv:=fun e x y=>(hU e x).bind fun a=>match y with
  | .d .none=>some (.d (.bool (if neg then !tK a else tK a)))
  | _=>none
def yJ(neg:Bool):En→Rv→Rv→Option Rv:=fun e x y=>(cU x).bind fun a=>(cU y).bind fun b=>some (.d (.bool (if neg then !(a==b) else a==b)))
theorem Iq:iy K (fun x y H Q=>y=.non∧Q (.bl (decide (x=.non))) H) (yK false):=by
  intro σ H0 F H e x y z v u Q R A B hg q
  unfold yK at hg
  obtain⟨a,h1,hg⟩:=OK hg
  split at hg
  · cases hg
    refine⟨fB.mp (show DA K F .none u from B),?_⟩
    rw [rG (j1 R A h1)]
    exact q F H _ (dP.refl _ _ _ _) R eP
  · cases hg
theorem Gz:iy K (fun x y H Q=>y=.non∧Q (.bl (!decide (x=.non))) H) (yK true):=by
  intro σ H0 F H e x y z v u Q R A B hg q
  unfold yK at hg
  obtain⟨a,h1,hg⟩:=OK hg
  split at hg
  · cases hg
    refine⟨fB.mp (show DA K F .none u from B),?_⟩
    rw [rG (j1 R A h1)]
    exact q F H _ (dP.refl _ _ _ _) R eP
  · cases hg
theorem Ip:iy K (fun x y H Q=>∃b c,x=.bl b∧y=.bl c∧Q (.bl (b==c)) H) (yJ false):=by
  intro σ H0 F H e x y z v u Q R A B hg q
  unfold yJ at hg
  obtain⟨a,h1,hg⟩:=OK hg
  obtain⟨b,h2,hg⟩:=OK hg
  cases hg
  exact⟨a,b,gT A h1,gT B h2,q F H _ (dP.refl _ _ _ _) R eP⟩
theorem Aj:iy K (fun x y H Q=>∃b c,x=.bl b∧y=.bl c∧Q (.bl (!(b==c))) H) (yJ true):=by
  intro σ H0 F H e x y z v u Q R A B hg q
  unfold yJ at hg
  obtain⟨a,h1,hg⟩:=OK hg
  obtain⟨b,h2,hg⟩:=OK hg
  cases hg
  exact⟨a,b,gT A h1,gT B h2,q F H _ (dP.refl _ _ _ _) R eP⟩
def HI:En→Rv→Rv→Option Rv:=Cg (yK false) (yJ false)
def lx:En→Rv→Rv→Option Rv:=Cg (yK true) (yJ true)
def Ji:R2:=fun x y H Q=>(y=.non∧Q (.bl (decide (x=.non))) H)∨∃b c,x=.bl b∧y=.bl c∧Q (.bl (b==c)) H
def ye:R2:=fun x y H Q=>(y=.non∧Q (.bl (!decide (x=.non))) H)∨∃b c,x=.bl b∧y=.bl c∧Q (.bl (!(b==c))) H
theorem GJ:iC X (PZ .Is) Ji:=GL.or GK
theorem yY:iC X (PZ .IsNot) ye:=Ds.or yZ
theorem KD:iy K Ji HI:=iy.or Iq Ip
theorem CS:iy K ye lx:=iy.or Gz Aj
def dI:En→Rv→Rv→Option Rv:=fun e x y=>(eU e x).bind fun p=>(cK y).bind fun i=>(atI p.2 i).map .d
def Jj(K:OU):R2:=fun x y H Q=>Jk K x y H Q∨Jl K x y H Q
theorem IB:Cq X (Jj X.K):=CU.or FL
theorem aP.atI{F:Hp}{ds:List OT}{vs:List V}(h:aP K F ds vs){i:Int}{d:OT}(q:atI ds i=some d):∃v,L2.atI vs i=some v∧DA K F d v:=by
  unfold L2.atI at q ⊢
  obtain⟨j,h1,h2⟩:=OK q
  obtain⟨v,h3,h4⟩:=h.get h2
  exact⟨v,by rw [←h.len,h1];exact h3,h4⟩
theorem IC:iy K (Jj K) dI:=by
  intro σ H0 F H e x y z v u Q R A B hg q
  unfold dI at hg
  obtain⟨⟨b,xs⟩,h1,hg⟩:=OK hg
  obtain⟨i,h2,hg⟩:=OK hg
  obtain⟨d,h3,hg⟩:=OL hg
  cases hg
  obtain⟨p,vs,rfl,d1,s1⟩:=dw R A h1
  obtain⟨w,h4,h5⟩:=d1.atI h3
  have fin:=q F H w (dP.refl _ _ _ _) R h5
  cases b with
  | true=>exact .inl ⟨p,vs,i,w,rfl,dJ B h2,s1,h4,fin⟩
  | false=>exact .inr ⟨p,vs,i,w,rfl,dJ B h2,s1,h4,fin⟩
end
end L2
namespace HT
open PySem PySem.Spec PyProof.Rows
section
variable{prog:OZ}{w:OW}{A:Pb}{E:OR→OS→Prop}{s:OS}
theorem getItem_tuple_all{t sl:xM}{items:Array OR}{vl vu:OR}{lo hi:Option Int}{Q:OR→OS→Prop}(ht:IsTup s.heap t items)(hs:s.heap.IsSliceOf sl vl vu .none)(pl:IsPart vl lo)(pu:IsPart vu hi)
    (hw:sIx items.size 0 lo=0∧sIx items.size items.size hi=items.size)
    (h:Q (.ref t) s):Pc (Pe prog w) A (getItem (.ref t) (.ref sl)) Q E s:=by
  obtain⟨os,hos,hcs,hds⟩:=id hs
  have hTs:s.TypeIs (.ref sl) "slice":=⟨os,hos,hcs⟩
  unfold getItem
  try with_reducible refine wpAny_holding ?_
  first | refine Ph (Pl ?_) | skip
  refine Ph (wpAny_sequenceKey ht.typeIs (by decide) ?_)
  refine Ph (wpAny_callSpecial?_slot (name:=OX "__getitem__") ht.typeIs RC
    (wpAny_call_entry RC ht.typeIs entry_tuple_getitem ?_ (args_tuple_getitem _ _)))
  show Pc _ _ (TB (.ref t) >>= _) _ _ s
  refine Ph (tupleItemsOf_ ht ?_)
  refine Ph (wpAny_typeOf hTs ?_)
  rw [if_pos (by decide)]
  refine Ph (jd hs pl pu ?_)
  have hno:(((sIx items.size 0 lo:Nat):Int)==0&&(1:Int)==1&&(sIx items.size items.size hi - sIx items.size 0 lo)==items.size)=true:=by
    rw [hw.1,hw.2];simp
  show Pc _ _ (if (((sIx items.size 0 lo:Nat):Int)==0&&(1:Int)==1&&(sIx items.size items.size hi - sIx items.size 0 lo)==items.size)=true then _ else _) _ _ s
  rw [if_pos hno]
  unfold Builtin.Tuple.tupleIsExact
  refine Ph (Ph (wpAny_typeOf ht.typeIs (Pl ?_)))
  rw [if_pos (by decide)]
  exact Ph (wpAny_rule (Pl ⟨_,rfl,Pl h⟩))
end
end HT
namespace L2
open PySem PySem.Spec PyProof.Rows
section
variable{X:Cx}{K:OU}{a:OV}{fa:FE}{lo hi:Option OV}{pos p2:Pos}
def lu(xs:List OT)(lo hi:Option Int):List OT:=(xs.drop (HT.sIx xs.length 0 lo)).take (HT.sIx xs.length xs.length hi - HT.sIx xs.length 0 lo)
def Jq(K:OU):V→Option Int→Option Int→Hp→VK→Prop:=fun x lo hi H Q=>∃a xs,x=.ref a∧eV K H a xs∧
  (HT.sIx xs.length 0 lo=0∧HT.sIx xs.length xs.length hi=xs.length)∧Q (.ref a) H
theorem DX:Cc X (Jq X.K):=by
  intro pins s σ H x v vl vu lo hi sl Q I rx hs pl pu h
  obtain⟨a,xs,rfl,hx,hw,q⟩:=h
  cases rx
  obtain⟨its,r,ht,hz⟩:=I.tuple hx
  have hlen:its.toArray.size=xs.length:=by rw [Py];exact r.length.symm
  refine⟨"tuple",_,RC.lookup,ht.typeIs,?_⟩
  exact HT.getItem_tuple_all ht hs pl pu (by rw [hlen];exact hw) ⟨.ref a,H,I,rfl,q⟩
def KN(K:OU):V→Option Int→Option Int→Hp→VK→Prop:=fun x lo hi H Q=>Jo K x lo hi H Q∨(Jq K x lo hi H Q∨Jn K x lo hi H Q)
theorem Jv:Cc X (KN X.K):=Hl.or (DX.or DV)
abbrev FO:=En→Option (Option Int × En)
def fO(K:OU)(f:FO):TO:=fun σ H Q=>∃F e o e',a_ K F H σ e∧f e=some (o,e')∧∀F' H',dP σ F H e F' H' e'→a_ K F' H' σ e'→Q o H'
theorem PO.mono{e:Option OV}{t t':TO}(h:PO X e t)(m:∀σ H Q,t' σ H Q→t σ H Q):PO X e t':=fun pins s σ H Q I q=>h pins s σ H Q I (m σ H Q q)
def gC:FO:=fun e=>some (none,e)
def gb(f:FE):FO:=fun e=>(f e).bind fun p=>(cK p.1).map fun i=>(some i,p.2)
theorem jI:PO X none (fO K gC):=DD.mono fun σ H Q h=>by
  obtain⟨F,e,o,e',R,hf,q⟩:=h
  cases hf
  exact q F H (dP.refl _ _ _ _) R
theorem jJ(h:PE X a (fE K fa)):PO X (some a) (fO K (gb fa)):=(DE h).mono fun σ H Q h=>by
  obtain⟨F,e,o,e',R,hf,q⟩:=h
  unfold gb at hf
  obtain⟨⟨x,e1⟩,h1,hf⟩:=OK hf
  obtain⟨i,h2,hf⟩:=OL hf
  cases hf
  exact⟨F,e,x,_,R,h1,fun F1 H1 v X1 R1 A1=>⟨i,dJ A1 h2,q F1 H1 X1 R1⟩⟩
def Ig(e:En)(x:Rv)(lo hi:Option Int):Option Rv:=(eU e x).map fun p=>if p.1=true then .l (lu p.2 lo hi) else .d (.tuple (lu p.2 lo hi))
def vV(fa:FE)(fl fh:FO):FE:=fun e=>(fa e).bind fun p=>(fl p.2).bind fun l=>(fh l.2).bind fun h=>(Ig h.2 p.1 l.1 h.1).map fun z=>(z,h.2)
theorem ti{F:Hp}{ds:List OT}{vs:List V}(h:aP K F ds vs)(lo hi:Option Int):aP K F (lu ds lo hi) (oH vs lo hi):=by
  unfold lu oH
  rw [h.len]
  exact(h.drop _).take _
theorem xP{α:Type}{xs:List α}{lo hi:Option Int}(h:HT.sIx xs.length 0 lo=0∧HT.sIx xs.length xs.length hi=xs.length):(xs.drop (HT.sIx xs.length 0 lo)).take (HT.sIx xs.length xs.length hi - HT.sIx xs.length 0 lo)=xs:=by
  rw [h.1,h.2];simp
theorem Bo{fl fh:FO}(he:PE X a (fE X.K fa))(hl:PO X lo (fO X.K fl))(hh:PO X hi (fO X.K fh)):PE X (.Subscript a (.Slice lo hi none p2) pos) (fE X.K (vV fa fl fh)):=(qf Jv he hl hh).mono fun σ H Q h=>by
  obtain⟨F,e,z,e',R,hf,q⟩:=h
  unfold vV at hf
  obtain⟨⟨x,e1⟩,h1,hf⟩:=OK hf
  obtain⟨⟨l,e2⟩,h2,hf⟩:=OK hf
  obtain⟨⟨u,e3⟩,h3,hf⟩:=OK hf
  obtain⟨z',h4,hf⟩:=OL hf
  cases hf
  refine⟨F,e,x,e1,R,h1,fun F1 H1 v X1 R1 A1=>⟨F1,e1,l,e2,R1,h2,fun F2 H2 X2 R2=>⟨F2,e2,u,_,R2,h3,fun F3 H3 X3 R3=>?_⟩⟩⟩
  have X12:=X1.trans X2
  have X13:=X12.trans X3
  have A3:=(A1.ext X2).ext X3
  unfold Ig at h4
  obtain⟨⟨b,xs⟩,h5,h4⟩:=OL h4
  obtain⟨p,vs,rfl,d1,s1⟩:=dw R3 A3 h5
  cases b with
  | true=>
    rw [if_pos rfl] at h4;cases h4
    refine .inr (.inr ⟨p,vs,rfl,s1,fun t ht=>?_⟩)
    obtain⟨R4,X4,hF,no⟩:=R3.newL (vs:=oH vs l u) ht
    exact q _ _ _ (X13.trans X4) R4 ⟨t,_,rfl,X13.dom _ ht,hF,av,ti d1 l u,no⟩
  | false=>
    rw [if_neg (by simp)] at h4;cases h4
    by_cases hw:HT.sIx vs.length 0 l=0∧HT.sIx vs.length vs.length u=vs.length
    · refine .inr (.inl ⟨p,vs,rfl,s1,hw,?_⟩)
      have e5:lu xs l u=xs:=by unfold lu;exact xP (by rw [d1.len];exact hw)
      rw [e5] at q
      obtain⟨F4,R4,X4,hF⟩:=R3.growT (aq.refl _) s1
      exact q _ _ _ (X13.trans X4) R4 (cN.mpr ⟨p,vs,rfl,hF,d1.mono X4.sf⟩)
    · refine .inl ⟨p,vs,rfl,s1,hw,fun t ht=>?_⟩
      obtain⟨R4,X4⟩:=R3.newT (vs:=oH vs l u) ht
      exact q _ _ _ (X13.trans X4) R4 (cN.mpr ⟨t,_,rfl,.inl (.inl av),(ti d1 l u).mono X4.sf⟩)
end
section
variable{X:Cx}{K:OU}
theorem uc{σ:L2.St}{H0 F H:Hp}{e:En}{x:Rv}{vs:List V}(h:em K σ H0 F H e [x] vs):∃v,vs=[v]∧cD K σ H0 F H e x v:=by
  obtain⟨v,ws,rfl,h1,h2⟩:=h
  have h2':ws=[]:=h2
  subst h2'
  exact⟨v,rfl,h1⟩
theorem yf{σ:L2.St}{H0 F H:Hp}{e:En}{x y:Rv}{vs:List V}(h:em K σ H0 F H e [x,y] vs):∃v u,vs=[v,u]∧cD K σ H0 F H e x v∧cD K σ H0 F H e y u:=by
  obtain⟨v,ws,rfl,h1,h2⟩:=h
  obtain⟨u,rfl,h3⟩:=uc h2
  exact⟨v,u,rfl,h1,h3⟩
def g1(g:En→Rv→Option Rv):En→List Rv→Option Rv:=fun e xs=>match xs with
  | [x]=>g e x
  | _=>none
def g2(g:En→Rv→Rv→Option Rv):En→List Rv→Option Rv:=fun e xs=>match xs with
  | [x,y]=>g e x y
  | _=>none
theorem fx{r:List V→Hp→VK→Prop}{g:En→Rv→Option Rv}(h:HH K (fun v H Q=>r [v] H Q) g):dz K r (g1 g):=by
  intro σ H0 F H e xs z vs Q R A hg q
  unfold g1 at hg
  match xs,hg with
  | [x],hg=>
    obtain⟨v,rfl,h1⟩:=uc A
    exact h σ H0 F H e x z v Q R h1 hg q
theorem xN{r:List V→Hp→VK→Prop}{g:En→Rv→Rv→Option Rv}(h:iy K (fun v u H Q=>r [v,u] H Q) g):dz K r (g2 g):=by
  intro σ H0 F H e xs z vs Q R A hg q
  unfold g2 at hg
  match xs,hg with
  | [x,y],hg=>
    obtain⟨v,u,rfl,h1,h2⟩:=yf A
    exact h σ H0 F H e x y z v u Q R h1 h2 hg q
def hX:En→Rv→Option Rv:=fun e x=>(eU e x).map fun p=>.d (.int p.2.length)
theorem IE:dz K (fun xs H Q=>∃p ys,xs=[.ref p]∧(iN K H p ys∨eV K H p ys)∧Q (.int ys.length) H) (g1 hX):=fx fun σ H0 F H e x z v Q R A hg q=>by
  obtain⟨⟨b,xs⟩,h5,h4⟩:=OL hg
  obtain⟨p,vs,rfl,d1,s1⟩:=dw R A h5
  cases h4
  refine⟨p,vs,rfl,?_,?_⟩
  · cases b with
    | true=>exact .inl s1
    | false=>exact .inr s1
  · rw [←d1.len]
    exact q F H _ (dP.refl _ _ _ _) R qr
def yH:En→Rv→Option Rv:=fun _ x=>(cK x).map fun i=>.d (.int (if i < 0 then -i else i))
theorem HQ:dz K (fun xs H Q=>∃i,xs=[.int i]∧Q (.int (if i < 0 then -i else i)) H) (g1 yH):=fx fun σ H0 F H e x z v Q R A hg q=>by
  obtain⟨i,h5,h4⟩:=OL hg
  cases h4
  exact⟨i,by rw [dJ A h5],q F H _ (dP.refl _ _ _ _) R qr⟩
def pP:En→Rv→Option Rv:=fun _ x=>match x with
  | .d (.int i)=>some (.d (.int i))
  | .d (.bool k)=>some (.d (.int (if k then 1 else 0)))
  | _=>none
theorem Io:dz K (fun xs H Q=>(∃i,xs=[.int i]∧Q (.int i) H)∨∃k,xs=[.bl k]∧Q (.int (if k then 1 else 0)) H) (g1 pP):=fx fun σ H0 F H e x z v Q R A hg q=>by
  unfold pP at hg
  split at hg
  · cases hg
    exact .inl ⟨_,by rw [b6.mp (show DA K F (.int _) v from A)],q F H _ (dP.refl _ _ _ _) R qr⟩
  · cases hg
    exact .inr ⟨_,by rw [dQ.mp (show DA K F (.bool _) v from A)],q F H _ (dP.refl _ _ _ _) R qr⟩
  · cases hg
def z9:=gI (fun _ _=>true) fun i j=>.int (if j < i then j else i)
def yM:=gI (fun _ _=>true) fun i j=>.int (if j > i then j else i)
theorem IM:dz K (fun xs H Q=>∃i j,xs=[.int i,.int j]∧Q (.int (if j < i then j else i)) H) (g2 z9):=xN fun σ H0 F H e x y z v u Q R A B hg q=>by
  obtain⟨i,j,h1,h2,h3⟩:=lA (K:=K) (g:=fun i j=>.int (if j < i then j else i)) (fun _ _ _=>b6.mpr rfl) σ H0 F H e x y z v u Q R A B hg q
  exact⟨i,j,by rw [h1,h2],h3⟩
theorem IL:dz K (fun xs H Q=>∃i j,xs=[.int i,.int j]∧Q (.int (if j > i then j else i)) H) (g2 yM):=xN fun σ H0 F H e x y z v u Q R A B hg q=>by
  obtain⟨i,j,h1,h2,h3⟩:=lA (K:=K) (g:=fun i j=>.int (if j > i then j else i)) (fun _ _ _=>b6.mpr rfl) σ H0 F H e x y z v u Q R A B hg q
  exact⟨i,j,by rw [h1,h2],h3⟩
def eG:En→Rv→Option Rv:=fun e x=>(eU e x).map fun p=>.d (.tuple p.2)
theorem D':dz K (fun xs H Q=>∃p ys,xs=[.ref p]∧((iN K H p ys∧∀l,H l=none→Q (.ref l) (bE H l (.tup ys)))∨(eV K H p ys∧Q (.ref p) H))) (g1 eG):=fx fun σ H0 F H e x z v Q R A hg q=>by
  obtain⟨⟨b,xs⟩,h5,h4⟩:=OL hg
  obtain⟨p,vs,rfl,d1,s1⟩:=dw R A h5
  cases h4
  refine⟨p,vs,rfl,?_⟩
  cases b with
  | true=>
    refine .inl ⟨s1,fun t ht=>?_⟩
    obtain⟨R4,X4⟩:=R.newT (vs:=vs) ht
    exact q _ _ _ X4 R4 (cN.mpr ⟨t,_,rfl,.inl (.inl av),d1.mono X4.sf⟩)
  | false=>
    obtain⟨F4,R4,X4,hF⟩:=R.growT (aq.refl _) s1
    exact .inr ⟨s1,q _ _ _ X4 R4 (cN.mpr ⟨p,vs,rfl,hF,d1.mono X4.sf⟩)⟩
def Ez:En→Rv→Option Rv:=fun e x=>(eU e x).map fun p=>.l p.2
theorem Gj:dz K (fun xs H Q=>∃p ys,xs=[.ref p]∧(iN K H p ys∨eV K H p ys)∧∀l,H l=none→Q (.ref l) (bE H l (.lst ys))) (g1 Ez):=fx fun σ H0 F H e x z v Q R A hg q=>by
  obtain⟨⟨b,xs⟩,h5,h4⟩:=OL hg
  obtain⟨p,vs,rfl,d1,s1⟩:=dw R A h5
  cases h4
  refine⟨p,vs,rfl,?_,fun t ht=>?_⟩
  · cases b with
    | true=>exact .inl s1
    | false=>exact .inr s1
  · obtain⟨R4,X4,hF,no⟩:=R.newL (vs:=vs) ht
    exact q _ _ _ X4 R4 ⟨t,_,rfl,ht,hF,av,d1,no⟩
def oe:List OT→Option (List Int)
  | []=>some []
  | .int i::r=>(oe r).map (i::·)
  | _=>none
theorem pX:∀{ds:List OT} {ns:List Int},oe ds=some ns→ds=ns.map .int
  | [],_,h=>by cases h;rfl
  | .int i::r,_,h=>by
    obtain⟨ns,h1,rfl⟩:=OL h
    rw [pX h1];rfl
theorem rO:∀(ns:List Int),oe (ns.map .int)=some ns
  | []=>rfl
  | i::r=>by simp [oe,rO r]
def sU:List OT→Option (List Bool)
  | []=>some []
  | .bool i::r=>(sU r).map (i::·)
  | _=>none
theorem rE:∀{ds:List OT} {ns:List Bool},sU ds=some ns→ds=ns.map .bool
  | [],_,h=>by cases h;rfl
  | .bool i::r,_,h=>by
    obtain⟨ns,h1,rfl⟩:=OL h
    rw [rE h1];rfl
def j5(g:List OT→Option OT):En→Rv→Option Rv:=fun e x=>match eU e x with
  | some (true,xs)=>(g xs).map .d
  | _=>none
theorem BR{r:List V→Hp→VK→Prop}{g:List OT→Option OT}(h:∀(F H:Hp) (p:xM) (xs:List OT) (vs:List V) (d:OT) (Q:VK),aP K F xs vs→iN K H p vs→g xs=some d→(∀v,(∀F,DA K F d v)→Q v H)→r [.ref p] H Q):dz K r (g1 (j5 g)):=fx fun σ H0 F H e x z v Q R A hg q=>by
  unfold j5 at hg
  split at hg
  case h_2=>cases hg
  case h_1 xs h5=>
  obtain⟨p,vs,rfl,d1,s1⟩:=dw R A h5
  obtain⟨d,h6,hg⟩:=OL hg
  cases hg
  exact h F H p xs vs d Q d1 s1 h6 fun v hv=>q F H v (dP.refl _ _ _ _) R (hv F)
def xS:List OT→Option OT:=fun xs=>(oe xs).map fun ns=>.int ns.sum
theorem Jz:dz K (fun xs H Q=>∃(l:xM) (ns:List Int),xs=[.ref l]∧iN K H l (ns.map V.int)∧Q (.int ns.sum) H) (g1 (j5 xS)):=BR fun F H p xs vs d Q d1 s1 hg q=>by
  obtain⟨ns,h1,h2⟩:=OL hg
  cases h2
  rw [pX h1] at d1
  rw [aP.ints.mp d1] at s1
  exact⟨p,ns,rfl,s1,q _ fun _=>b6.mpr rfl⟩
def uL:List OT→Option OT:=fun xs=>(sU xs).map fun ns=>.bool (ns.all id)
theorem HR:dz K (fun xs H Q=>∃(l:xM) (bs:List Bool),xs=[.ref l]∧iN K H l (bs.map V.bl)∧Q (.bl (bs.all id)) H) (g1 (j5 uL)):=BR fun F H p xs vs d Q d1 s1 hg q=>by
  obtain⟨ns,h1,h2⟩:=OL hg
  cases h2
  rw [rE h1] at d1
  rw [aP.bools.mp d1] at s1
  exact⟨p,ns,rfl,s1,q _ fun _=>dQ.mpr rfl⟩
def eY:En→Rv→Option Rv:=fun e x=>match eU e x with
  | some (false,xs)=>(oe xs).bind fun ns=>if ns.length < 64 then some (.l ((je ns).map .int)) else none
  | _=>none
def BA(K:OU):List V→Hp→VK→Prop:=fun xs H Q=>∃(a:xM) (ns:List Int),xs=[.ref a]∧eV K H a (ns.map V.int)∧ns.length < 64∧∀(l:xM) (H':Hp),aq H H'→H l=none→H' l=some (.lst ((je ns).map V.int))→Q (.ref l) H'
theorem wq:dB X (.builtin "sorted") (BA X.K):=by
  intro pins s σ H xs us Q I rv h
  obtain⟨a,ns,e1,e2,e3,q⟩:=h
  exact uD pins s σ H xs us Q I rv ⟨a,ns,e1,e2,e3,fun l ns' H' sm hn hl hp hs=>q l H' sm hn (by rw [←BV hp hs];exact hl)⟩
theorem DY:dz K (BA K) (g1 eY):=fx fun σ H0 F H e x z v Q R A hg q=>by
  unfold eY at hg
  split at hg
  case h_2=>cases hg
  case h_1 xs h5=>
  obtain⟨p,vs,rfl,d1,s1⟩:=dw R A h5
  obtain⟨ns,h6,hg⟩:=OK hg
  split at hg
  case isFalse=>cases hg
  case isTrue hl=>
  cases hg
  rw [pX h6] at d1
  have s1':eV K H p vs:=s1
  rw [aP.ints.mp d1] at s1'
  refine⟨p,ns,rfl,s1',hl,fun l H' sm hn hl'=>?_⟩
  obtain⟨R4,X4⟩:=R.same sm
  exact q F H' _ X4 R4 ⟨l,_,rfl,hn,R.freeF hn,hl',aP.ints.mpr rfl,fun z=>R.ownH l ((R.sameOwn sm l).mp z) hn⟩
mutual
def fU:OT→Bool
  | .tuple ds=>cq ds
  | .list _=>false
  | .dict _=>false
  | _=>true
def cq:List OT→Bool
  | []=>true
  | d::r=>fU d&&cq r
end
mutual
def AI:OT→Bool
  | .list _=>false
  | .tuple ds=>va ds
  | _=>true
def va:List OT→Bool
  | []=>true
  | d::r=>AI d&&va r
end
end
section
variable{K:OU}{σ:L2.St}{H0 F H F' H':Hp}{e e':En}
theorem a_.upd1(R:a_ K F H σ e){σ':L2.St}(i:Nat)(hl:σ'.length=e'.length)(hσ:∀j,j≠i→σ'[j]?=σ[j]?)(he:∀j,j≠i→e'[j]?=e[j]?)(sF:aq F F')(sm:aq F' H')(hf:∀j a,j≠i→Fp σ e H j a→F' a=none)
    (hh:∀j a o,j≠i→Fp σ e H j a→H a=some o→H' a=some o)(hd:∀x,e'[i]?=some (some (.d x))→∃v,σ'[i]?=some (some v)∧DA K F' x v)
    (ho:∀xs,e'[i]?=some (some (.l xs))→∃l vs,σ'[i]?=some (some (.ref l))∧F' l=none∧H' l=some (.lst vs)∧aP K F' xs vs)
    (hn:∀xss,e'[i]?=some (some (.n xss))→∃(l:xM) (bs:List xM),σ'[i]?=some (some (.ref l))∧F' l=none∧H' l=some (.lst (bs.map V.ref))∧bs.length=xss.length∧bs.Nodup∧l∉bs∧
      ∀(k:Nat) (b:xM) (ys:List OT),bs[k]?=some b→xss[k]?=some ys→F' b=none∧∃us,H' b=some (.lst us)∧aP K F' ys us)
    (hi:∀a j,j≠i→Fp σ' e' H' i a→¬Fp σ e H j a):a_ K F' H' σ' e'∧∀j a,j≠i→(Fp σ' e' H' j a↔ Fp σ e H j a):=by
  have fs:∀j a,j≠i→(Fp σ' e' H' j a↔ Fp σ e H j a):=by
    intro j a hj
    have key:∀xss l,e[j]?=some (some (.n xss))→σ[j]?=some (some (.ref l))→H' l=H l:=fun xss l h1 h2=>by
      obtain⟨l',bs,g1,g2,g3,_⟩:=R.nst j xss h1
      rw [h2] at g1;cases g1
      rw [g3]
      exact hh j l _ hj (.inr ⟨xss,l,bs,h1,h2,g3,.inl rfl⟩) g3
    unfold Fp
    rw [he j hj,hσ j hj]
    constructor
    · rintro(h1 | ⟨xss,l,bs,h1,h2,h3,h4⟩)
      · exact .inl h1
      · exact .inr ⟨xss,l,bs,h1,h2,by rw [←key xss l h1 h2];exact h3,h4⟩
    · rintro(h1 | ⟨xss,l,bs,h1,h2,h3,h4⟩)
      · exact .inl h1
      · exact .inr ⟨xss,l,bs,h1,h2,by rw [key xss l h1 h2];exact h3,h4⟩
  refine⟨⟨sm,hl,fun j x q=>?_,fun j xs q=>?_,fun j xss q=>?_,fun j k a q1 q2=>?_⟩,fs⟩
  · by_cases z:j=i
    · subst z;exact hd x q
    · rw [he j z] at q
      obtain⟨v,h1,h2⟩:=R.dat j x q
      exact⟨v,by rw [hσ j z];exact h1,DA.mono sF h2⟩
  · by_cases z:j=i
    · subst z;exact ho xs q
    · rw [he j z] at q
      obtain⟨l,vs,h1,h2,h3,h4⟩:=R.own j xs q
      have o:Fp σ e H j l:=.inl ⟨xs,q,h1⟩
      exact⟨l,vs,by rw [hσ j z];exact h1,hf j l z o,hh j l _ z o h3,h4.mono sF⟩
  · by_cases z:j=i
    · subst z;exact hn xss q
    · rw [he j z] at q
      obtain⟨l,bs,h1,h2,h3,h4,h5,h6,h7⟩:=R.nst j xss q
      have o:Fp σ e H j l:=.inr ⟨xss,l,bs,q,h1,h3,.inl rfl⟩
      refine⟨l,bs,by rw [hσ j z];exact h1,hf j l z o,hh j l _ z o h3,h4,h5,h6,fun k b ys g1 g2=>?_⟩
      obtain⟨c1,us,c2,c3⟩:=h7 k b ys g1 g2
      have ob:Fp σ e H j b:=.inr ⟨xss,l,bs,q,h1,h3,.inr (OQ g1)⟩
      exact⟨hf j b z ob,us,hh j b _ z ob c2,c3.mono sF⟩
  · by_cases zj:j=i
    · subst zj
      by_cases zk:k=j
      · exact zk.symm
      · exact absurd ((fs k a zk).mp q2) (hi a k zk q1)
    · by_cases zk:k=i
      · subst zk
        exact absurd ((fs j a zj).mp q1) (hi a j zj q2)
      · exact R.fp j k a ((fs j a zj).mp q1) ((fs k a zk).mp q2)
theorem a_.putL(R:a_ K F H σ e){i:Nat}{xs ys:List OT}{l:xM}{vs:List V}(hi:e[i]?=some (some (.l xs)))(hl:σ[i]?=some (some (.ref l)))(hd:aP K F ys vs):
    a_ K F (bE H l (.lst vs)) σ (e.set i (some (.l ys)))∧dP σ F H e F (bE H l (.lst vs)) (e.set i (some (.l ys))):=by
  obtain⟨l',vs',h1,h2,h3,h4⟩:=R.own i xs hi
  rw [hl] at h1;cases h1
  have hlt:i < e.length:=(OM hi).1
  have fi:Fp σ e H i l:=.inl ⟨xs,hi,hl⟩
  have gi:(e.set i (some (Sv.l ys)))[i]?=some (some (.l ys)):=Qb hlt
  obtain⟨R',fs⟩:=R.upd1 (F':=F) (H':=bE H l (.lst vs)) (e':=e.set i (some (.l ys))) i (by rw [RH];exact R.len) (fun _ _=>rfl) (fun j hj=>Pm (Pt hj)) (aq.refl F)
    (fun b o q=>by
      have z:b≠l:=fun z=>by rw [z,h2] at q;cases q
      rw [ax z];exact R.sm b o q)
    (fun j a _ q=>(R.fpAt q).1)
    (fun j a o hj q ha=>by
      have z:a≠l:=fun z=>hj (R.fp j i a q (by rw [z];exact fi))
      rw [ax z];exact ha)
    (fun x q=>by rw [gi] at q;cases q) (fun zs q=>by rw [gi] at q;cases q;exact⟨l,vs,hl,h2,av,hd⟩) (fun xss q=>by rw [gi] at q;cases q)
    (fun a j hj q q2=>by
      rcases q with ⟨zs,_,q⟩ | ⟨xss,_,_,q,_⟩
      · rw [hl] at q;cases q
        exact hj (R.fp j i _ q2 fi)
      · rw [gi] at q;cases q)
  refine⟨R',⟨aq.refl _,fun a q=>?_,fun _ _ q _ _=>q,fun a ws q=>?_,fun a o q n=>?_,fun j=>?_,fun a ⟨j,q⟩=>?_,fun _ _ q _ _=>q⟩⟩
  · by_cases z:a=l
    · rw [z,av] at q;cases q
    · rw [ax z] at q;exact q
  · by_cases z:a=l
    · rw [z];exact⟨vs,av⟩
    · rw [ax z];exact⟨ws,q⟩
  · have z:a≠l:=fun z=>n ⟨i,by rw [z];exact fi⟩
    rw [ax z];exact q
  · by_cases z:j=i
    · subst z;rw [gi];exact⟨fun _=>⟨xs,hi⟩,fun _=>⟨ys,rfl⟩⟩
    · rw [Pm (Pt z)]
  · by_cases z:j=i
    · subst z
      rcases q with ⟨zs,_,q⟩ | ⟨xss,_,_,q,_⟩
      · rw [hl] at q;cases q;exact .inl ⟨j,fi⟩
      · rw [gi] at q;cases q
    · exact .inl ⟨j,(fs j a z).mp q⟩
theorem a_.setD(R:a_ K F H σ e)(i:Nat){x:OT}{v:V}(h:DA K F x v):a_ K F H (σ.set i (some v)) (e.set i (some (.d x)))∧∀a,bA (σ.set i (some v)) (e.set i (some (.d x))) H a→bA σ e H a:=by
  have gi:∀s,(e.set i (some (Sv.d x)))[i]?=some (some s)→s=.d x∧i < e.length:=fun s q=>by
    have hlt:i < e.length:=by have:=(OM q).1;simpa using this
    rw [Qb hlt] at q
    exact⟨(Qq (Qq q)).symm,hlt⟩
  have nofp:∀a,¬Fp (σ.set i (some v)) (e.set i (some (.d x))) H i a:=fun a q=>by
    rcases q with ⟨zs,q,_⟩ | ⟨xss,_,_,q,_⟩
    · cases (gi _ q).1
    · cases (gi _ q).1
  obtain⟨R',fs⟩:=R.upd1 (F':=F) (H':=H) (σ':=σ.set i (some v)) (e':=e.set i (some (.d x))) i (by rw [RH,RH];exact R.len) (fun j hj=>Pm (Pt hj)) (fun j hj=>Pm (Pt hj)) (aq.refl F) R.sm
    (fun j a _ q=>(R.fpAt q).1) (fun j a o _ _ ha=>ha)
    (fun y q=>by
      obtain⟨z,hlt⟩:=gi _ q
      cases z
      exact⟨v,Qb (by rw [R.len];exact hlt),h⟩)
    (fun zs q=>by cases (gi _ q).1) (fun xss q=>by cases (gi _ q).1) (fun a j hj q=>absurd q (nofp a))
  refine⟨R',fun a ⟨j,q⟩=>?_⟩
  by_cases z:j=i
  · subst z;exact absurd q (nofp a)
  · exact⟨j,(fs j a z).mp q⟩
theorem a_.setL(R:a_ K F H σ e)(i:Nat){xs:List OT}{l:xM}{vs:List V}(h1:F l=none)(h2:H l=some (.lst vs))(h3:aP K F xs vs)(h4:¬bA σ e H l):a_ K F H (σ.set i (some (.ref l))) (e.set i (some (.l xs)))∧∀a,bA (σ.set i (some (.ref l))) (e.set i (some (.l xs))) H a→bA σ e H a∨a=l:=by
  have gi:∀s,(e.set i (some (Sv.l xs)))[i]?=some (some s)→s=.l xs∧i < e.length:=fun s q=>by
    have hlt:i < e.length:=by have:=(OM q).1;simpa using this
    rw [Qb hlt] at q
    exact⟨(Qq (Qq q)).symm,hlt⟩
  have onefp:∀a,Fp (σ.set i (some (.ref l))) (e.set i (some (.l xs))) H i a→a=l:=fun a q=>by
    rcases q with ⟨zs,q,q2⟩ | ⟨xss,_,_,q,_⟩
    · obtain⟨_,hlt⟩:=gi _ q
      rw [Qb (by rw [R.len];exact hlt)] at q2
      cases q2;rfl
    · cases (gi _ q).1
  obtain⟨R',fs⟩:=R.upd1 (F':=F) (H':=H) (σ':=σ.set i (some (.ref l))) (e':=e.set i (some (.l xs))) i (by rw [RH,RH];exact R.len) (fun j hj=>Pm (Pt hj)) (fun j hj=>Pm (Pt hj)) (aq.refl F) R.sm
    (fun j a _ q=>(R.fpAt q).1) (fun j a o _ _ ha=>ha) (fun y q=>by cases (gi _ q).1)
    (fun zs q=>by
      obtain⟨z,hlt⟩:=gi _ q
      cases z
      exact⟨l,vs,Qb (by rw [R.len];exact hlt),h1,h2,h3⟩)
    (fun xss q=>by cases (gi _ q).1) (fun a j hj q q2=>h4 ⟨j,by rw [onefp a q] at q2;exact q2⟩)
  refine⟨R',fun a ⟨j,q⟩=>?_⟩
  by_cases z:j=i
  · subst z;exact .inr (onefp a q)
  · exact .inl ⟨j,(fs j a z).mp q⟩
end
section
variable{X:Cx}{K:OU}{o a:OV}{es:List OV}{fo:FE}{fs:FA}{name:Str}{apos cpos:Pos}{id:String}
def pq(K:OU)(r:V→List V→Hp→VK→Prop)(g:List OT→List OT→Option (OT × List OT)):Prop:=
  ∀(F H:Hp) (l:xM) (xs ys ds:List OT) (z:OT) (vs us:List V) (Q:VK),F l=none→aq F H→H l=some (.lst vs)→aP K F xs vs→aP K F ds us→g xs ds=some (z,ys)→
    (∀w ws,DA K F z w→aP K F ys ws→Q w (bE H l (.lst ws)))→r (.ref l) us H Q
def ci(g:List OT→List OT→Option (OT × List OT))(fo:FE)(fs:FA):FE:=fun e=>(fo e).bind fun p=>match p.1 with
  | .s i=>(fs p.2).bind fun q=>(gz q.1).bind fun ds=>match q.2[i]? with
    | some (some (.l xs))=>(g xs ds).map fun z=>(.d z.1,q.2.set i (some (.l z.2)))
    | _=>none
  | _=>none
theorem vS{r:V→List V→Hp→VK→Prop}{g:List OT→List OT→Option (OT × List OT)}(hm:pq K r g){σ:L2.St}{H:Hp}{Q:VK}(h:fE K (ci g fo fs) σ H Q):Lm K "list" r (fE K fo) (fA K fs) σ H Q:=by
  obtain⟨F,e,z,e',R,hf,q⟩:=h
  unfold ci at hf
  obtain⟨⟨x,e1⟩,h1,hf⟩:=OK hf
  match x,h1,hf with
  | .s i,h1,hf=>
  dsimp only at hf
  obtain⟨⟨rs,e2⟩,h2,hf⟩:=OK hf
  obtain⟨ds,h3,hf⟩:=OK hf
  refine⟨F,e,_,e1,R,h1,fun F1 H1 v X1 R1 A1=>?_⟩
  obtain⟨g1,zs,g2⟩:=A1
  obtain⟨l,vs,c1,c2,c3,c4⟩:=R1.own i zs g2
  rw [g1] at c1;cases c1
  refine⟨.inl ⟨rfl,vs,.inl (.inl c3)⟩,F1,e1,rs,e2,R1,h2,fun F2 H2 us X2 R2 A2=>?_⟩
  match h4:e2[i]?,hf with
  | some (some (.l xs)),hf=>
  dsimp only at hf
  obtain⟨⟨zd,ys⟩,h5,hf⟩:=OL hf
  cases hf
  obtain⟨F3,R3,s3,d3,f3⟩:=em.frozen R2 A2 h3
  obtain⟨l',vs',k1,k2,k3,k4⟩:=R3.own i xs h4
  rw [g1] at k1;cases k1
  refine hm F3 H2 l xs ys ds zd vs' us Q k2 R3.sm k3 k4 d3 h5 fun w ws hw hws=>?_
  obtain⟨R4,X4⟩:=R3.putL h4 g1 hws
  exact q _ _ _ ((X1.trans (X2.frz s3 f3)).trans X4) R4 hw
theorem EO{r:V→List V→Hp→VK→Prop}{g:List OT→List OT→Option (OT × List OT)}(slot:Slot "list" name id)(hty:typeOf (.builtin id)=pure (.type "method_descriptor"))(hm:Fe X id r)(hf:pq X.K r g)(ho:PE X o (fE X.K fo))(ha:PA X (a::es) (fA X.K fs))
    (hbase:Qr o name X.env (Pf o X.env)=Pf o X.env)
    (hfew:((Po cpos (Pd (a::es) X.env)).all (fun x=> !x.1)&&(QL cpos (QM [] X.env)).all (fun x=>x.1.isSome)
      &&decide ((a::es).length+([]:List Qh).length+(if ([]:List Qh).isEmpty then 0 else 1) < 30))=true)
    (hline:(apos.endLine==cpos.line)=true)(hs:Pd (a::es) X.env=(false,Pf a X.env)::Pd es X.env)(hplain:(Po cpos (Pd es X.env)).any (·.1)=false):
    PE X (.Call (.Attribute o name apos) (a::es) [] cpos) (fE X.K (ci g fo fs)):=(AV PySem.F.plainAttrs_list slot hty hm ho ha hbase hfew hline hs hplain).mono fun _ _ _ h=>vS hf h
theorem Bl{r:V→List V→Hp→VK→Prop}{g:List OT→List OT→Option (OT × List OT)}(slot:Slot "list" name id)(hty:typeOf (.builtin id)=pure (.type "method_descriptor"))(hm:Fe X id r)(hf:pq X.K r g)(ho:PE X o (fE X.K fo))
    (hbase:Qr o name X.env (Pf o X.env)=Pf o X.env)(hline:(apos.endLine==cpos.line)=true):PE X (.Call (.Attribute o name apos) [] [] cpos) (fE X.K (ci g fo ah)):=(AW PySem.F.plainAttrs_list slot hty hm ho hbase hline).mono fun σ H Q h=>by
  obtain⟨F,e,r',e',R,hf',q⟩:=vS hf h
  refine⟨F,e,r',e',R,hf',fun F1 H1 v X1 R1 A1=>?_⟩
  obtain⟨ty,G,e2,rs,e3,R2,h2,q2⟩:=q F1 H1 v X1 R1 A1
  cases h2
  exact⟨ty,q2 G H1 [] (dP.refl _ _ _ _) R2 rfl⟩
def bH:List OT→List OT→Option (OT × List OT):=fun xs ds=>match ds with
  | [d]=>if xs.length < 1000000 then some (.none,xs++[d]) else none
  | _=>none
theorem zD:pq K yd bH:=by
  intro F H l xs ys ds z vs us Q hF sm hl d1 d2 hg q
  unfold bH at hg
  match ds,hg,d2 with
  | [d],hg,d2=>
    simp only [aP] at d2
    obtain⟨w,r,rfl,hw,rfl⟩:=d2
    dsimp only at hg
    split at hg
    case isFalse=>cases hg
    case isTrue hlt=>
    cases hg
    have:=d1.len
    have sl:Pk=16777216:=Qg
    exact⟨l,vs,w,rfl,rfl,hl,by lia,q _ _ (fB.mpr rfl) (d1.append (aP.one hw))⟩
def mx:List OT→List OT→Option (OT × List OT):=fun xs ds=>match ds with
  | []=>(xs[xs.length - 1]?).map fun d=>(d,xs.dropLast)
  | _=>none
theorem aP.dropLast{F:Hp}{ds:List OT}{vs:List V}(h:aP K F ds vs):aP K F ds.dropLast vs.dropLast:=by
  rw [List.dropLast_eq_take,List.dropLast_eq_take,h.len];exact h.take _
theorem I0:pq K Jm mx:=by
  intro F H l xs ys ds z vs us Q hF sm hl d1 d2 hg q
  unfold mx at hg
  match ds,hg,d2 with
  | [],hg,d2=>
    simp only [aP] at d2
    subst d2
    obtain⟨d,h1,h2⟩:=OL hg
    cases h2
    obtain⟨v,g1,g2⟩:=d1.get h1
    rw [d1.len] at g1
    exact⟨l,vs,v,rfl,rfl,hl,g1,q _ _ g2 d1.dropLast⟩
def e_:List OT→List OT→Option (OT × List OT):=fun xs ds=>match ds with
  | [.int i]=>if 0≤i∧i < 1000000000 then(xs[i.toNat]?).map fun d=>(d,xs.eraseIdx i.toNat) else none
  | _=>none
theorem DF:pq K By e_:=by
  intro F H l xs ys ds z vs us Q hF sm hl d1 d2 hg q
  unfold e_ at hg
  match ds,hg,d2 with
  | [.int i],hg,d2=>
    simp only [aP,DA] at d2
    obtain⟨w,r,rfl,rfl,rfl⟩:=d2
    dsimp only at hg
    split at hg
    case isFalse=>cases hg
    case isTrue hlt=>
    obtain⟨d,h1,h2⟩:=OL hg
    cases h2
    obtain⟨v,g1,g2⟩:=d1.get h1
    have hlt2:i.toNat < vs.length:=(OM g1).1
    exact⟨l,vs,i,i.toNat,v,rfl,rfl,hl,by lia,by lia,seqIndex_of hlt.1 (by lia),g1,q _ _ g2 (d1.erase _)⟩
end
inductive Fl where
  | nx (e:En)
  | bk (e:En)
  | ct (e:En)
  | rt (r:Rv) (e:En)
abbrev FS:=En→Option Fl
structure dY (W:List Nat) (σ:L2.St) (F H:Hp) (e:En) (σ':L2.St) (F' H':Hp) (e':En):Prop where
  sf:aq F F'
  dom:∀a,H' a=none→H a=none
  fr:∀a vs,F a=none→H a=some (.lst vs)→¬bA σ e H a→F' a=none
  lst:∀a vs,H a=some (.lst vs)→∃vs',H' a=some (.lst vs')
  tmp:∀a o,H a=some o→¬bA σ e H a→H' a=some o
  own:∀a,bA σ' e' H' a→bA σ e H a∨H a=none
  wr:∀j,j∉W→σ'[j]?=σ[j]?
  fd:∀a (m:DI),F a=none→H a=some m.1→¬bA σ e H a→F' a=none
section
variable{K:OU}{W W1 W2:List Nat}{σ σ1 σ2 σ':L2.St}{H0 F H F1 H1 F2 H2 F' H':Hp}{e e1 e2 e':En}
theorem dY.refl:dY W σ F H e σ F H e:=⟨aq.refl _,fun _ h=>h,fun _ _ h _ _=>h,fun _ vs h=>⟨vs,h⟩,fun _ _ h _=>h,fun _ h=>.inl h,fun _ _=>rfl,fun _ _ h _ _=>h⟩
theorem dP.s(x:dP σ F H e F' H' e'):dY W σ F H e σ F' H' e':=⟨x.sf,x.dom,x.fr,x.lst,x.tmp,x.ow,fun _ _=>rfl,x.fd⟩
theorem dY.trans(x:dY W σ F H e σ1 F1 H1 e1)(y:dY W σ1 F1 H1 e1 σ2 F2 H2 e2):dY W σ F H e σ2 F2 H2 e2:=
  ⟨x.sf.trans y.sf,fun a h=>x.dom a (y.dom a h),fun a vs h n no=>let ⟨vs',q⟩:=x.lst a vs n;y.fr a vs' (x.fr a vs h n no) q (fun z=>(x.own a z).elim no fun z=>by rw [n] at z;cases z),fun a vs h=>let ⟨vs',q⟩:=x.lst a vs h;y.lst a vs' q,
    fun a o h n=>y.tmp a o (x.tmp a o h n) (fun z=>(x.own a z).elim n fun z=>by rw [h] at z;cases z),
    fun a h=>(y.own a h).elim (x.own a) (fun z=>.inr (x.dom a z)),
    fun j h=>(y.wr j h).trans (x.wr j h),
    fun a m h n no=>y.fd a m (x.fd a m h n no) (x.tmp a _ n no) (fun z=>(x.own a z).elim no fun z=>by rw [n] at z;cases z)⟩
theorem dY.mono(x:dY W1 σ F H e σ' F' H' e')(h:∀j,j∈W1→j∈W):dY W σ F H e σ' F' H' e':=⟨x.sf,x.dom,x.fr,x.lst,x.tmp,x.own,fun j n=>x.wr j fun z=>n (h j z),x.fd⟩
end
def pN(K:OU)(W:List Nat)(σ:L2.St)(F H:Hp)(e:En)(D:qR):Fl→Prop
  | .nx e'=>∀F' H' σ',dY W σ F H e σ' F' H' e'→a_ K F' H' σ' e'→D.nx σ' H'
  | .bk e'=>∀F' H' σ',dY W σ F H e σ' F' H' e'→a_ K F' H' σ' e'→D.bk σ' H'
  | .ct e'=>∀F' H' σ',dY W σ F H e σ' F' H' e'→a_ K F' H' σ' e'→D.ct σ' H'
  | .rt r e'=>∀F' H' σ' v,dY W σ F H e σ' F' H' e'→a_ K F' H' σ' e'→cD K σ' H F' H' e' r v→D.rt v H'
def fS(K:OU)(f:FS)(W:List Nat):TS:=fun D σ H=>∃F e fl,a_ K F H σ e∧f e=some fl∧pN K W σ F H e D fl
theorem PS.mono{X:Cx}{st:Pa}{t t':TS}(h:PS X st t)(m:∀D σ H,t' D σ H→t D σ H):PS X st t':=fun pins s σ H D I q=>h pins s σ H D I (m D σ H q)
theorem jj.mono{X:Cx}{st:List Pa}{t t':TS}(h:jj X st t)(m:∀D σ H,t' D σ H→t D σ H):jj X st t':=fun pins s σ H D I q=>h pins s σ H D I (m D σ H q)
theorem pN.later{K:OU}{W W1 W2:List Nat}{σ σ1:L2.St}{F H F1 H1:Hp}{e e1:En}{D:qR}{fl:Fl}(h:pN K W σ F H e D fl)(x:dY W1 σ F H e σ1 F1 H1 e1)(h1:∀j,j∈W1→j∈W)(h2:∀j,j∈W2→j∈W):pN K W2 σ1 F1 H1 e1 D fl:=by
  cases fl with
  | nx e'=>exact fun F' H' σ' y R=>h F' H' σ' ((x.mono h1).trans (y.mono h2)) R
  | bk e'=>exact fun F' H' σ' y R=>h F' H' σ' ((x.mono h1).trans (y.mono h2)) R
  | ct e'=>exact fun F' H' σ' y R=>h F' H' σ' ((x.mono h1).trans (y.mono h2)) R
  | rt r e'=>exact fun F' H' σ' v y R A=>h F' H' σ' v ((x.mono h1).trans (y.mono h2)) R (A.weak x.dom)
section
variable{X:Cx}{K:OU}{W W1 W2:List Nat}{st:Pa}{cA:List Pa}{f g:FS}{a b:OV}{fa:FE}{ft:FT}{pos:Pos}
def cQ:FS:=fun e=>some (.nx e)
def aR(f g:FS):FS:=fun e=>(f e).bind fun fl=>match fl with
  | .nx e1=>g e1
  | fl=>some fl
theorem bf:jj X [] (fS K cQ []):=x8.mono fun D σ H h=>by
  obtain⟨F,e,fl,R,hf,q⟩:=h
  cases hf
  exact q F H σ dY.refl R
theorem af(h1:PS X st (fS K f W1))(h2:jj X cA (fS K g W2)):jj X (st::cA) (fS K (aR f g) (W1++W2)):=(kc h1 h2).mono fun D σ H h=>by
  obtain⟨F,e,fl,R,hf,q⟩:=h
  unfold aR at hf
  obtain⟨fl1,h1,hf⟩:=OK hf
  have s1:∀j,j∈W1→j∈W1++W2:=fun j h=>Qf.mpr (.inl h)
  have s2:∀j,j∈W2→j∈W1++W2:=fun j h=>Qf.mpr (.inr h)
  refine⟨F,e,fl1,R,h1,?_⟩
  cases fl1 with
  | nx e1=>exact fun F' H' σ' x R'=>⟨F',e1,fl,R',hf,q.later x s1 s2⟩
  | bk e1=>cases hf;exact fun F' H' σ' x R'=>q F' H' σ' (x.mono s1) R'
  | ct e1=>cases hf;exact fun F' H' σ' x R'=>q F' H' σ' (x.mono s1) R'
  | rt r e1=>cases hf;exact fun F' H' σ' v x R' A=>q F' H' σ' v (x.mono s1) R' A
theorem am(h1:PS X st (fS K f W)):jj X [st] (fS K f W):=o5 h1
def eQ(fa:FE):FS:=fun e=>(fa e).map fun p=>.nx p.2
theorem gR(he:PE X a (fE K fa))(hs:QO a none pos.line X.env=pure false):PS X (.Expr a pos) (fS K (eQ fa) []):=(x6 he hs).mono fun D σ H h=>by
  obtain⟨F,e,fl,R,hf,q⟩:=h
  obtain⟨⟨x,e1⟩,h1,hf⟩:=OL hf
  cases hf
  exact⟨F,e,x,e1,R,h1,fun F1 H1 v X1 R1 A1=>q F1 H1 σ X1.s R1⟩
def br(fa:FE):FS:=fun e=>(fa e).map fun p=>.rt p.1 p.2
theorem aC(he:PE X a (fE K fa)):PS X (.Return (some a) pos) (fS K (br fa) []):=(t5 he).mono fun D σ H h=>by
  obtain⟨F,e,fl,R,hf,q⟩:=h
  obtain⟨⟨x,e1⟩,h1,hf⟩:=OL hf
  cases hf
  exact⟨F,e,x,e1,R,h1,fun F1 H1 v X1 R1 A1=>q F1 H1 σ v X1.s R1 A1⟩
def i8(ft:FT)(f g:FS):FS:=fun e=>(ft e).bind fun p=>if p.1=true then f p.2 else g p.2
theorem cL{c:OV}{bs cs:List Pa}(hc:PT X c (fT K ft))(ha:jj X bs (fS K f W1))(hb:jj X cs (fS K g W2)):PS X (.If c bs cs pos) (fS K (i8 ft f g) (W1++W2)):=(EJ hc ha hb).mono fun D σ H h=>by
  obtain⟨F,e,fl,R,hf,q⟩:=h
  unfold i8 at hf
  obtain⟨⟨x,e1⟩,h1,hf⟩:=OK hf
  refine⟨F,e,x,e1,R,h1,fun F1 H1 X1 R1=>?_⟩
  cases x with
  | true=>exact⟨F1,e1,fl,R1,hf,q.later (W1:=[]) X1.s (fun j h=>by cases h) fun j h=>Qf.mpr (.inl h)⟩
  | false=>exact⟨F1,e1,fl,R1,hf,q.later (W1:=[]) X1.s (fun j h=>by cases h) fun j h=>Qf.mpr (.inr h)⟩
def qj(i:Nat)(r:Rv)(e:En):Option En:=match r with
  | .d x=>some (e.set i (some (.d x)))
  | .l xs=>some (e.set i (some (.l xs)))
  | .s _=>none
theorem G1{σ:L2.St}{H F H1 F1:Hp}{e e1 e2:En}{i:Nat}{r:Rv}{v:V}(R:a_ K F H σ e)(X1:dP σ F H e F1 H1 e1)(R1:a_ K F1 H1 σ e1)(A1:cD K σ H F1 H1 e1 r v)(h:qj i r e1=some e2):
    dY [i] σ F H e (σ.set i (some v)) F1 H1 e2∧a_ K F1 H1 (σ.set i (some v)) e2:=by
  have wr:∀j,j∉[i]→(σ.set i (some v))[j]?=σ[j]?:=fun j n=>Pm (fun z=>n (by simp [z]))
  cases r with
  | d x=>
    cases h
    obtain⟨R2,o2⟩:=R1.setD i A1
    exact⟨⟨X1.sf,X1.dom,X1.fr,X1.lst,X1.tmp,fun a h=>X1.ow a (o2 a h),wr,X1.fd⟩,R2⟩
  | l xs=>
    cases h
    obtain⟨l,vs,rfl,h1,h2,h3,h4,h5⟩:=A1
    obtain⟨R2,o2⟩:=R1.setL i h2 h3 h4 h5
    refine⟨⟨X1.sf,X1.dom,X1.fr,X1.lst,X1.tmp,fun a h=>?_,wr,X1.fd⟩,R2⟩
    rcases o2 a h with z | z
    · exact X1.ow a z
    · exact .inr (by rw [z];exact h1)
  | s j=>cases h
def bx(i:Nat)(fa:FE):FS:=fun e=>(fa e).bind fun p=>(qj i p.1 p.2).map .nx
theorem aQ{i:Nat}{x:Str}{pos':Pos}(hN:X.N.Nodup)(hi:X.N[i]?=some x)(hx:zx X.env.scope x)(he:PE X a (fE K fa))(hs:QO a (some (.Name x pos')) pos.line X.env=pure false)(hf:X.fn x=true∨X.env.scope.names.lookup x=some .local):
    PS X (.Assign [.Name x pos'] a pos) (fS K (bx i fa) [i]):=(qi hN hi hx he hs hf).mono fun D σ H h=>by
  obtain⟨F,e,fl,R,hf,q⟩:=h
  unfold bx at hf
  obtain⟨⟨r,e1⟩,h1,hf⟩:=OK hf
  obtain⟨e2,h2,hf⟩:=OL hf
  cases hf
  refine⟨F,e,r,e1,R,h1,fun F1 H1 v X1 R1 A1=>?_⟩
  obtain⟨x,R2⟩:=G1 R X1 R1 A1 h2
  exact q F1 H1 _ x R2
abbrev FG:=OT→En→Option En
def fG(K:OU)(g:FG)(W:List Nat):TG:=fun v σ H Q=>∃F e x e',a_ K F H σ e∧DA K F x v∧g x e=some e'∧∀σ',dY W σ F H e σ' F H e'→a_ K F H σ' e'→Q σ' H
abbrev Ej:=List OT→En→Option En
def J1(K:OU)(g:Ej)(W:List Nat):Cd:=fun vs σ H Q=>∃F e xs e',a_ K F H σ e∧aP K F xs vs∧g xs e=some e'∧∀σ',dY W σ F H e σ' F H e'→a_ K F H σ' e'→Q σ' H
theorem PG.mono{tg:OV}{t t':TG}(h:PG X tg t)(m:∀v σ H Q,t' v σ H Q→t v σ H Q):PG X tg t':=fun pins s σ H v u Q I r q=>h pins s σ H v u Q I r (m v σ H Q q)
theorem zy.mono{tg:List OV}{t t':Cd}(h:zy X tg t)(m:∀v σ H Q,t' v σ H Q→t v σ H Q):zy X tg t':=fun pins s σ H v u Q I r q=>h pins s σ H v u Q I r (m v σ H Q q)
def aj(i:Nat):FG:=fun x e=>some (e.set i (some (.d x)))
def bT:Ej:=fun xs e=>match xs with
  | []=>some e
  | _=>none
def aL(g:FG)(gs:Ej):Ej:=fun xs e=>match xs with
  | x::r=>(g x e).bind fun e1=>gs r e1
  | _=>none
def cy(gs:Ej):FG:=fun x e=>match x with
  | .tuple xs=>gs xs e
  | _=>none
theorem aI{i:Nat}{x:Str}(hN:X.N.Nodup)(hi:X.N[i]?=some x)(hx:zx X.env.scope x)(hf:X.fn x=true∨X.env.scope.names.lookup x=some .local):PG X (.Name x pos) (fG K (aj i) [i]):=(tZ hN hi hx hf).mono fun v σ H Q h=>by
  obtain⟨F,e,x,e',R,hx,hg,q⟩:=h
  cases hg
  obtain⟨R2,o2⟩:=R.setD i hx
  exact q _ ⟨aq.refl _,fun _ h=>h,fun _ _ h _ _=>h,fun _ vs h=>⟨vs,h⟩,fun _ _ h _=>h,fun a h=>.inl (o2 a h),fun j n=>Pm (fun z=>n (by simp [z])),fun _ _ h _ _=>h⟩ R2
theorem eN:zy X [] (J1 K bT []):=x5.mono fun v σ H Q h=>by
  obtain⟨F,e,x,e',R,hx,hg,q⟩:=h
  unfold bT at hg
  split at hg
  · cases hg
    simp only [aP] at hx
    exact⟨hx,q σ dY.refl R⟩
  · cases hg
theorem bc{es:List OV}{g1:FG}{gs:Ej}(h1:PG X a (fG K g1 W1))(h2:zy X es (J1 K gs W2))
    (hs:(PQ (a::es) X.env).map (·.2)=assign a X.env::(PQ es X.env).map (·.2)):zy X (a::es) (J1 K (aL g1 gs) (W1++W2)):=(qg h1 h2 hs).mono fun v σ H Q h=>by
  obtain⟨F,e,xs,e',R,hx,hg,q⟩:=h
  unfold aL at hg
  match xs,hg,hx with
  | x::r,hg,hx=>
    simp only [aP] at hx
    obtain⟨w,ws,e1,hw,hr⟩:=hx
    dsimp only at hg
    obtain⟨e1',h3,h4⟩:=OK hg
    refine⟨w,ws,e1,F,e,x,e1',R,hw,h3,fun σ1 x1 R1=>⟨F,e1',r,e',R1,hr,h4,fun σ2 x2 R2=>?_⟩⟩
    exact q σ2 ((x1.mono fun j h=>Qf.mpr (.inl h)).trans (x2.mono fun j h=>Qf.mpr (.inr h))) R2
theorem ij{es:List OV}{k n:Nat}{gs:Ej}(hK:X.K=K)(hc:X.calm=true)(h:zy X es (J1 K gs W))(hl:∀xs e e',gs xs e=some e'→xs.length=n)(hn:(PQ es X.env).length=n)(hst:(PQ es X.env).findIdx? (·.1)=none):PG X (.Tuple es k pos) (fG K (cy gs) W):=(x4 hK hc h hn hst).mono fun v σ H Q h=>by
  obtain⟨F,e,x,e',R,hx,hg,q⟩:=h
  unfold cy at hg
  match x,hg,hx with
  | .tuple xs,hg,hx=>
    obtain⟨p,vs,e1,e2,e3⟩:=cN.mp hx
    exact⟨p,vs,e1,R.sm.tup e2,by rw [←e3.len];exact hl xs e e' hg,F,e,xs,e',R,e3,hg,q⟩
theorem hZ(xs:List OT)(e e':En)(h:bT xs e=some e'):xs.length=0:=by
  unfold bT at h
  split at h
  · rfl
  · cases h
theorem bz{g:FG}{gs:Ej}{n:Nat}(hl:∀xs e e',gs xs e=some e'→xs.length=n)(xs:List OT)(e e':En)(h:aL g gs xs e=some e'):xs.length=n+1:=by
  unfold aL at h
  match xs,h with
  | x::r,h=>
    obtain⟨e1,h3,h4⟩:=OK h
    simp [hl r e1 e' h4]
def kY(fa:FE)(g:FG):FS:=fun e=>(fa e).bind fun p=>match p.1 with
  | .d x=>(g x p.2).map .nx
  | _=>none
theorem qm{tg:OV}{g:FG}(he:PE X a (fE K fa))(hg:PG X tg (fG K g W))(hs:RV [tg] a pos.line X.env=pure false)(hw:RW [tg] a X.env=pure none)
    (h1:(PQ [tg] X.env).map (·.2)=[assign tg X.env]):PS X (.Assign [tg] a pos) (fS K (kY fa g) W):=(A9 he hg hs hw h1).mono fun D σ H h=>by
  obtain⟨F,e,fl,R,hf,q⟩:=h
  unfold kY at hf
  obtain⟨⟨r,e1⟩,h1,hf⟩:=OK hf
  match r,h1,hf with
  | .d x,h1,hf=>
    obtain⟨e2,h2,hf⟩:=OL hf
    cases hf
    exact⟨F,e,_,e1,R,h1,fun F1 H1 v X1 R1 A1=>⟨F1,e1,x,e2,R1,A1,h2,fun σ' x2 R2=>q F1 H1 σ' (X1.s.trans x2) R2⟩⟩
def oP(i j:Nat)(fs:FA):FS:=fun e=>(fs e).bind fun p=>match p.1 with
  | [.d x,.d y]=>some (.nx ((p.2.set i (some (.d x))).set j (some (.d y))))
  | _=>none
theorem G8{i j:Nat}{x y:Str}{fs:FA}{px py pt:Pos}{kt k2 pt2}(hc:X.calm=true)(hN:X.N.Nodup)(hi:X.N[i]?=some x)(hj:X.N[j]?=some y)(hij:i≠j)
    (hx:X.env.scope.names.lookup x=some .local)(hy:X.env.scope.names.lookup y=some .local)(ha:PA X [a,b] (fA K fs))
    (hw:RW [.Tuple [.Name x px,.Name y py] kt pt] (.Tuple [a,b] k2 pt2) X.env=pure (some [x,y]))
    (hs:RV [.Tuple [.Name x px,.Name y py] kt pt] (.Tuple [a,b] k2 pt2) pos.line X.env=pure false):
    PS X (.Assign [.Tuple [.Name x px,.Name y py] kt pt] (.Tuple [a,b] k2 pt2) pos) (fS K (oP i j fs) [i,j]):=(GZ hc hN hi hj hij hx hy ha hw hs).mono fun D σ H h=>by
  obtain⟨F,e,fl,R,hf,q⟩:=h
  unfold oP at hf
  obtain⟨⟨rs,e1⟩,h1,hf⟩:=OK hf
  refine⟨F,e,rs,e1,R,h1,fun F1 H1 vs X1 R1 A1=>?_⟩
  match rs,hf,A1 with
  | [.d x,.d y],hf,A1=>
    cases hf
    obtain⟨v,u,rfl,a1,a2⟩:=yf A1
    obtain⟨R2,o2⟩:=R1.setD i a1
    obtain⟨R3,o3⟩:=R2.setD j a2
    refine⟨v,u,rfl,q F1 H1 _ ⟨X1.sf,X1.dom,X1.fr,X1.lst,X1.tmp,fun a h=>X1.ow a (o2 a (o3 a h)),fun m n=>?_,X1.fd⟩ R3⟩
    rw [Pm (fun z=>n (by simp [z])),Pm (fun z=>n (by simp [z]))]
def hR:Rv→Option OT
  | .d x=>some x
  | .l xs=>some (.list xs)
  | .s _=>none
theorem yF{r:Rv}{d:OT}(h:hR r=some d):gz [r]=some [d]:=by
  cases r with
  | d x=>cases h;rfl
  | l xs=>cases h;rfl
  | s i=>cases h
def jP(ft:FT)(f:FS):Nat→FS
  | 0,_=>none
  | n+1,e=>(ft e).bind fun p=>if p.1=true then(f p.2).bind fun fl=>match fl with
      | .nx e1=>jP ft f n e1
      | .ct e1=>jP ft f n e1
      | .bk e1=>some (.nx e1)
      | .rt r e1=>some (.rt r e1)
    else some (.nx p.2)
def qA(n:Nat)(ft:FT)(f:FS):FS:=jP ft f n
theorem vy{n:Nat}{c:OV}{body:List Pa}(hp:PassesOwn (Pe X.prog X.w) X.A X.env X.xe)(hc:PT X c (fT K ft))(hb:jj X body (fS K f W)):PS X (.While c body [] pos) (fS K (qA n ft f) W):=(Ba hp hc hb).mono fun D σ H h=>by
  refine⟨fun m σ H=>∃F e fl,a_ K F H σ e∧jP ft f m e=some fl∧pN K W σ F H e D fl,⟨n,h⟩,?_⟩
  rintro m σ H ⟨F,e,fl,R,hf,q⟩
  cases m with
  | zero=>cases hf
  | succ m=>
    unfold jP at hf
    obtain⟨⟨x,e1⟩,h1,hf⟩:=OK hf
    refine⟨F,e,x,e1,R,h1,fun F1 H1 X1 R1=>?_⟩
    have sub:∀j,j∈([]:List Nat)→j∈W:=fun j h=>by cases h
    cases x with
    | false=>
      rw [if_neg (by simp)] at hf
      cases hf
      exact Iy (q F1 H1 σ X1.s R1)
    | true=>
      rw [if_pos rfl] at hf
      refine Iz ?_
      obtain⟨fl1,h2,hf⟩:=OK hf
      have q1:pN K W σ F1 H1 e1 D fl:=q.later (W1:=[]) X1.s sub fun j h=>h
      refine⟨fun σ' H'=>∃F' e',a_ K F' H' σ' e'∧jP ft f m e'=some fl∧pN K W σ' F' H' e' D fl,fun σ' H' ⟨F',e',r1,r2,r3⟩=>⟨m,Nat.lt_succ_self m,F',e',fl,r1,r2,r3⟩,F1,e1,fl1,R1,h2,?_⟩
      cases fl1 with
      | nx e2=>exact fun F2 H2 σ2 x R2=>⟨F2,e2,R2,hf,q1.later x (fun j h=>h) fun j h=>h⟩
      | ct e2=>exact fun F2 H2 σ2 x R2=>⟨F2,e2,R2,hf,q1.later x (fun j h=>h) fun j h=>h⟩
      | bk e2=>cases hf;exact fun F2 H2 σ2 x R2=>q1 F2 H2 σ2 x R2
      | rt r e2=>cases hf;exact fun F2 H2 σ2 v x R2 A=>q1 F2 H2 σ2 v x R2 A
end
theorem PI.mono{X:Cx}{tg iter:OV}{t t':TI}(h:PI X tg iter t)(m:∀σ H R,t' σ H R→t σ H R):PI X tg iter t':=fun pins s σ H R I q=>h pins s σ H R I (m σ H R q)
theorem PI.or{X:Cx}{tg iter:OV}{t t':TI}(h:PI X tg iter t)(h':PI X tg iter t'):PI X tg iter (fun σ H R=>t σ H R∨t' σ H R):=fun pins s σ H R I q=>by
  rcases q with q | q
  · exact h pins s σ H R I q
  · exact h' pins s σ H R I q
abbrev jV:=List (Nat × List OT)
def zB(K:OU)(σ:L2.St)(F H:Hp)(own:jV):Prop:=∀p∈own,∃l vs,σ[p.1]?=some (some (.ref l))∧H l=some (.lst vs)∧aP K F p.2 vs
def Co(K:OU)(σ:L2.St)(J:It)(items:List OT)(own:jV)(F0:Hp):Prop:=∀F H,aq F0 F→aq F H→zB K σ F H own→
  (∀i,i < items.length→J.go i H)∧(∀i,items.length≤i→J.stop i H)∧∀i d x H',items[i]?=some d→J.yld i H x H'→∃F',aq H H'∧aq F F'∧aq F' H'∧(∀a,F a=none→H a≠none→F' a=none)∧DA K F' d x
abbrev FI:=En→Option (List OT × jV × En)
def keeps(own:jV)(e:En):Prop:=∀p∈own,e[p.1]?=some (some (.l p.2))
def fI(K:OU)(f:FI):TI:=fun σ H R=>∃F e items own e',a_ K F H σ e∧f e=some (items,own,e')∧∀J F' H',dP σ F H e F' H' e'→a_ K F' H' σ e'→keeps own e'→Co K σ J items own F'→R J H'
section
variable{K:OU}{σ:L2.St}{H0 F H F' H':Hp}{e e':En}
theorem a_.held(R:a_ K F H σ e){own:jV}(h:keeps own e):zB K σ F H own:=fun p hp=>by
  obtain⟨l,vs,h1,h2,h3,h4⟩:=R.own p.1 p.2 (h p hp)
  exact⟨l,vs,h1,h3,h4⟩
theorem a_.step(R:a_ K F H σ e)(s:aq H H')(sF:aq F F')(sm:aq F' H')(fz:∀a,F a=none→H a≠none→F' a=none):a_ K F' H' σ e∧dP σ F H e F' H' e:=by
  obtain⟨R',o'⟩:=R.keep sF sm (fun a ⟨i,h⟩=>by
    obtain⟨h1,vs,h2⟩:=R.fpAt h
    exact fz a h1 (by rw [h2];simp)) fun a o _ h=>s a o h
  exact⟨R',⟨sF,fun a h=>s.free h,fun a vs h1 h2 _=>fz a h1 (by rw [h2];simp),fun a vs h=>⟨vs,s _ _ h⟩,fun a o h _=>s a o h,fun _=>Iff.rfl,fun a h=>.inl ((o' a).mp h),fun a m h1 h2 _=>fz a h1 (by rw [h2];simp)⟩⟩
inductive El (K:OU) (σ:L2.St) (F:Hp) (p:xM):Bool→List OT→jV→Prop
  | tup {xs vs}:eV K F p vs→aP K F xs vs→El K σ F p false xs []
  | lst {xs vs}:iN K F p vs→aP K F xs vs→El K σ F p true xs []
  | own {i xs}:σ[i]?=some (some (.ref p))→El K σ F p true xs [(i,xs)]
theorem El.at{p:xM}{b:Bool}{xs:List OT}{own:jV}{F0:Hp}(h:El K σ F0 p b xs own)(s0:aq F0 F)(s1:aq F H){own':jV}(hh:zB K σ F H own')(hs:∀q∈own,q∈own'):∃vs,aP K F xs vs∧(if b=true then iN K H p vs else eV K H p vs):=by
  cases h with
  | tup h1 h2=>exact⟨_,h2.mono s0,(s0.trans s1).tup h1⟩
  | lst h1 h2=>exact⟨_,h2.mono s0,(s0.trans s1).seq h1⟩
  | @own i xs h1=>
    obtain⟨l,vs,g1,g2,g3⟩:=hh (i,xs) (hs (i,xs) (by simp))
    dsimp only at g1 g3
    rw [h1] at g1;cases g1
    exact⟨vs,g3,.inl (.inl g2)⟩
def Hm(e:En):Rv→Option (Bool × List OT × jV)
  | .d (.tuple xs)=>some (false,xs,[])
  | .d (.list xs)=>some (true,xs,[])
  | .l xs=>some (true,xs,[])
  | .s i=>match e[i]? with
    | some (some (.l xs))=>some (true,xs,[(i,xs)])
    | _=>none
  | _=>none
theorem ym{r:Rv}{v:V}{b:Bool}{xs:List OT}{own:jV}(R:a_ K F H σ e)(A:cD K σ H0 F H e r v)(h:Hm e r=some (b,xs,own)):
    ∃F' p,a_ K F' H σ e∧aq F F'∧(∀a,F a=none→H0 a≠none→F' a=none)∧v=.ref p∧El K σ F' p b xs own∧keeps own e:=by
  cases r with
  | d x=>
    cases x with
    | tuple ds=>
      cases h
      obtain⟨a,ys,e1,e2,e3⟩:=cN.mp A
      exact⟨F,a,R,aq.refl _,fun _ h _=>h,e1,.tup e2 e3,fun p hp=>by cases hp⟩
    | list ds=>
      cases h
      obtain⟨a,ys,e1,e2,e3⟩:=et.mp A
      exact⟨F,a,R,aq.refl _,fun _ h _=>h,e1,.lst e2 e3,fun p hp=>by cases hp⟩
    | _=>cases h
  | l ys=>
    cases h
    obtain⟨F',R',s',d',f'⟩:=A.frozen R
    obtain⟨a,ys,e1,e2,e3⟩:=et.mp d'
    exact⟨F',a,R',s',f',e1,.lst e2 e3,fun p hp=>by cases hp⟩
  | s i=>
    obtain⟨h1,ys,h2⟩:=A
    simp only [Hm,h2] at h
    cases h
    obtain⟨l,vs,e1,e2,e3,e4⟩:=R.own i _ h2
    rw [h1] at e1;cases e1
    exact⟨F,l,R,aq.refl _,fun _ h _=>h,rfl,.own h1,fun p hp=>by simp only [PJ] at hp;subst hp;exact h2⟩
theorem yQ{p:xM}{xs:List OT}{own:jV}{F0:Hp}(h:El K σ F0 p true xs own):Co K σ (Kb K p) xs own F0:=by
  intro F H s0 s1 hh
  obtain⟨vs,d,q⟩:=h.at s0 s1 hh fun _ h=>h
  have q:iN K H p vs:=q
  refine⟨fun i hi=>⟨vs,vs[i]'(by rw [←d.len];exact hi),q,QA _⟩,fun i hi=>⟨vs,q,by rw [←d.len];exact hi⟩,fun i x v H' hx hy=>?_⟩
  obtain⟨rfl,hy⟩:=hy
  obtain⟨w,g1,g2⟩:=d.get hx
  have e:=hy vs q
  rw [g1] at e;cases e
  exact⟨F,aq.refl _,aq.refl _,s1,fun _ h _=>h,g2⟩
theorem Ak{p:xM}{xs:List OT}{own:jV}{F0:Hp}(h:El K σ F0 p false xs own):Co K σ (Kc K p) xs own F0:=by
  intro F H s0 s1 hh
  obtain⟨vs,d,q⟩:=h.at s0 s1 hh fun _ h=>h
  have q:eV K H p vs:=q
  refine⟨fun i hi=>⟨vs,vs[i]'(by rw [←d.len];exact hi),q,QA _⟩,fun i hi=>⟨vs,q,by rw [←d.len];exact hi⟩,fun i x v H' hx hy=>?_⟩
  obtain⟨rfl,hy⟩:=hy
  obtain⟨w,g1,g2⟩:=d.get hx
  have e:=hy vs q
  rw [g1] at e;cases e
  exact⟨F,aq.refl _,aq.refl _,s1,fun _ h _=>h,g2⟩
def be(lo:Int)(n:Nat):List OT:=(QS n).map fun(i:Nat)=>.int (lo+(i:Int))
theorem wB{lo:Int}{n:Nat}{F0:Hp}:Co K σ (JV lo n) (be lo n) [] F0:=by
  intro F H s0 s1 hh
  unfold be
  rw [Px,List.length_range]
  refine⟨fun i hi=>hi,fun i hi=>hi,fun i x v H' hx hy=>?_⟩
  obtain⟨rfl,rfl⟩:=hy
  rw [PF] at hx
  obtain⟨k,h1,rfl⟩:=OL hx
  have h2:=(OM h1).2
  simp at h2
  subst h2
  exact⟨F,aq.refl _,aq.refl _,s1,fun _ h _=>h,b6.mpr rfl⟩
end
inductive J_ (K:OU) (own:jV) (σ0:L2.St) (F1:Hp) (P:En→Prop) (G:L2.St→Hp→Hp→En→Prop) (σ:L2.St) (H:Hp):Prop
  | mk {F:Hp} {e:En} (R:a_ K F H σ e) (kp:keeps own e) (hσ:∀p∈own,σ[p.1]?=σ0[p.1]?) (sF:aq F1 F) (hf:P e) (q:G σ F H e):J_ K own σ0 F1 P G σ H
section
variable{X:Cx}{K:OU}{tg a b:OV}{es:List OV}{fa:FE}{fs:FA}{pos p tp:Pos}{k0:Nat}
def j7(fa:FE):FI:=fun e=>(fa e).bind fun p=>(Hm p.2 p.1).map fun s=>(s.2.1,s.2.2,p.2)
theorem fj(hK:X.K=K)(h:PE X a (fE K fa)):PI X tg a (fI K (j7 fa)):=((A4 (tg:=tg) hK h).or (DC (tg:=tg) hK h)).mono fun σ H R hh=>by
  obtain⟨F,e,items,own,e',R0,hf,q⟩:=hh
  unfold j7 at hf
  obtain⟨⟨r,e1⟩,h1,hf⟩:=OK hf
  obtain⟨⟨b,xs,ow⟩,h2,hf⟩:=OL hf
  cases hf
  cases b with
  | true=>
    refine .inl ⟨F,e,r,e1,R0,h1,fun F1 H1 v X1 R1 A1=>?_⟩
    obtain⟨F2,p,R2,s2,f2,rfl,sc,kp⟩:=ym R1 A1 h2
    obtain⟨vs,_,c⟩:=sc.at (aq.refl _) R2.sm (R2.held kp) fun _ h=>h
    exact⟨p,rfl,⟨vs,c⟩,q _ F2 H1 (X1.frz s2 f2) R2 kp (yQ sc)⟩
  | false=>
    refine .inr ⟨F,e,r,e1,R0,h1,fun F1 H1 v X1 R1 A1=>?_⟩
    obtain⟨F2,p,R2,s2,f2,rfl,sc,kp⟩:=ym R1 A1 h2
    obtain⟨vs,_,c⟩:=sc.at (aq.refl _) R2.sm (R2.held kp) fun _ h=>h
    exact⟨p,rfl,⟨vs,c⟩,q _ F2 H1 (X1.frz s2 f2) R2 kp (Ak sc)⟩
def BD(j:Int):Bool:=decide (-1000000≤j)&&decide (j≤1000000)
theorem BE{j:Int}(h:BD j=true): -1000000≤j∧j≤1000000:=by
  unfold BD at h
  rw [PV,decide_eq_true_iff,decide_eq_true_iff] at h
  exact h
def di(fs:FA):FI:=fun e=>(fs e).bind fun p=>match p.1 with
  | [r]=>(cK r).bind fun j=>if BD j=true then some (be 0 j.toNat,[],p.2) else none
  | _=>none
theorem dr(hg:Gl X "range")(hm:X.mg "range"=none)(ha:PA X [a] (fA K fs))(hs:Pd [a] X.env=[(false,Pf a X.env)]):PI X tg (.Call (.Name "range" p) [a] [] pos) (fI K (di fs)):=(y6 hg hm ha hs).mono fun σ H R hh=>by
  obtain⟨F,e,items,own,e',R0,hf,q⟩:=hh
  unfold di at hf
  obtain⟨⟨rs,e1⟩,h1,hf⟩:=OK hf
  match rs,h1,hf with
  | [r],h1,hf=>
  obtain⟨j,h2,hf⟩:=OK hf
  split at hf
  case isFalse=>cases hf
  case isTrue hj=>
  cases hf
  refine⟨F,e,_,e1,R0,h1,fun F1 H1 vs X1 R1 A1=>?_⟩
  obtain⟨v,rfl,A2⟩:=uc A1
  have:=BE hj
  exact⟨j,by rw [dJ A2 h2],by lia,by lia,q _ F1 H1 X1 R1 (fun _ h=>by cases h) wB⟩
open Classical in
noncomputable def kX(own:jV)(g:FG)(f:FS):List OT→FS
  | [],e=>some (.nx e)
  | x::r,e=>(g x e).bind fun e1=>(f e1).bind fun fl=>match fl with
    | .nx e2=>if keeps own e2 then kX own g f r e2 else none
    | .ct e2=>if keeps own e2 then kX own g f r e2 else none
    | .bk e2=>some (.nx e2)
    | .rt v e2=>some (.rt v e2)
noncomputable def iM(W:List Nat)(fi:FI)(g:FG)(f:FS):FS:=fun e=>(fi e).bind fun p=>if (p.2.1.all fun q=> !W.contains q.1)=true then kX p.2.1 g f p.1 p.2.2 else none
theorem lC{W1 W2:List Nat}{iter:OV}{body:List Pa}{fi:FI}{g:FG}{f:FS}(hp:PassesOwn (Pe X.prog X.w) X.A X.env X.xe)(hc:X.calm=true)(hi:PI X tg iter (fI K fi))(hg:PG X tg (fG K g W1))(hb:jj X body (fS K f W2))(hs:∀x,RM iter X.env x=pure x):
    PS X (.For tg iter body [] pos) (fS K (iM (W1++W2) fi g f) (W1++W2)):=(A_ hp hc hi hg hb hs).mono fun D σ0 H0 hh=>by
  obtain⟨F0,e0,fl,R0,hf,q0⟩:=hh
  unfold iM at hf
  obtain⟨⟨items,own,e1⟩,h1,hf⟩:=OK hf
  dsimp only at hf
  split at hf
  case isFalse=>cases hf
  case isTrue hW=>
  have hW':∀p∈own,p.1∉W1++W2:=fun p hp=>by
    have:=PY.mp hW p hp
    simpa using this
  refine⟨F0,e0,items,own,e1,R0,h1,fun J F1 H1 X1 R1 kp ok=>?_⟩
  have s1:∀j,j∈W1→j∈W1++W2:=fun j h=>Qf.mpr (.inl h)
  have s2:∀j,j∈W2→j∈W1++W2:=fun j h=>Qf.mpr (.inr h)
  have q1:pN K (W1++W2) σ0 F1 H1 e1 D fl:=q0.later (W1:=[]) X1.s (fun j h=>by cases h) fun j h=>h
  refine⟨fun i m σ H=>m=items.length - i∧i≤items.length∧J_ K own σ0 F1 (fun e=>kX own g f (items.drop i) e=some fl) (fun σ F H e=>pN K (W1++W2) σ F H e D fl) σ H,
    ⟨items.length,by simp,QP _,.mk R1 kp (fun _ _=>rfl) (aq.refl _) hf q1⟩,?_⟩
  rintro i m σ H ⟨rfl,hi,⟨R,kp,hσ,sF,hf,q⟩⟩
  rename_i F e
  have held:zB K σ0 F H own:=fun p hp=>by
    obtain⟨l,vs,g1,g2⟩:=R.held kp p hp
    exact⟨l,vs,by rw [←hσ p hp];exact g1,g2⟩
  obtain⟨go,stop,yld⟩:=ok F H sF R.sm held
  by_cases hlt:i < items.length
  · have hd:items.drop i=items[i]::items.drop (i+1):=Tq hlt
    rw [hd] at hf
    unfold kX at hf
    obtain⟨e2,h2,hf⟩:=OK hf
    obtain⟨fl2,h3,hf⟩:=OK hf
    refine .inr ⟨go i hlt,J_ K own σ0 F1 (fun e=>kX own g f (items.drop (i+1)) e=some fl) (fun σ F H e=>pN K (W1++W2) σ F H e D fl),
      fun σ' H' r=>⟨items.length - (i+1),by lia,rfl,hlt,r⟩,fun x H' hy=>?_⟩
    obtain⟨F',sH,sF',sm',fz,hx⟩:=yld i items[i] x H' (QA hlt) hy
    obtain⟨R',X'⟩:=R.step sH sF' sm' fz
    refine⟨F',e,items[i],e2,R',hx,h2,fun σ2 x2 R2=>⟨F',e2,fl2,R2,h3,?_⟩⟩
    have q2:pN K (W1++W2) σ2 F' H' e2 D fl:=(q.later (W1:=[]) (W2:=W1++W2) X'.s (fun j h=>by cases h) fun j h=>h).later x2 s1 fun j h=>h
    have w2:∀p∈own,σ2[p.1]?=σ0[p.1]?:=fun p hp=>(x2.wr p.1 fun z=>hW' p hp (s1 _ z)).trans (hσ p hp)
    cases fl2 with
    | nx e3=>
      intro F3 H3 σ3 x3 R3
      dsimp only at hf
      split at hf
      case isFalse=>cases hf
      case isTrue kp3=>
      exact .mk R3 kp3 (fun p hp=>(x3.wr p.1 fun z=>hW' p hp (s2 _ z)).trans (w2 p hp)) (sF.trans (sF'.trans x3.sf)) hf (q2.later x3 s2 fun j h=>h)
    | ct e3=>
      intro F3 H3 σ3 x3 R3
      dsimp only at hf
      split at hf
      case isFalse=>cases hf
      case isTrue kp3=>
      exact .mk R3 kp3 (fun p hp=>(x3.wr p.1 fun z=>hW' p hp (s2 _ z)).trans (w2 p hp)) (sF.trans (sF'.trans x3.sf)) hf (q2.later x3 s2 fun j h=>h)
    | bk e3=>
      cases hf
      exact fun F3 H3 σ3 x3 R3=>q2 F3 H3 σ3 (x3.mono s2) R3
    | rt r e3=>
      cases hf
      exact fun F3 H3 σ3 v x3 R3 A3=>q2 F3 H3 σ3 v (x3.mono s2) R3 A3
  · have hd:items.drop i=[]:=Tr (by lia)
    rw [hd] at hf
    cases hf
    exact .inl ⟨stop i (by lia),q F H σ dY.refl R⟩
end
def zA:Option (Option Sv)→Bool
  | some (some (.l _))=>true
  | _=>false
theorem CQ{s:Option (Option Sv)}:zA s=true↔ ∃xs,s=some (some (.l xs)):=by
  unfold zA
  split
  · simp
  · rename_i h
    constructor
    · intro z;cases z
    · rintro⟨xs,rfl⟩;exact absurd rfl (h xs)
def qN(pos:Nat→Option Nat)(ei e:En):En:=e.mapIdx fun i s=>match s with
  | some (.l xs)=>match pos i with
    | some k=>(ei[k]?).join
    | none=>some (.l xs)
  | s=>s
theorem bX{pos:Nat→Option Nat}{ei e:En}{i:Nat}:(qN pos ei e)[i]?=(e[i]?).map fun s=>match s with
  | some (.l xs)=>match pos i with
    | some k=>(ei[k]?).join
    | none=>some (.l xs)
  | s=>s:=by unfold qN;rw [List.getElem?_mapIdx]
structure uw (σ:L2.St) (e:En) (σi:L2.St) (ei:En) (pos:Nat→Option Nat):Prop where
  a:∀(i k:Nat) (xs:List OT),e[i]?=some (some (.l xs))→pos i=some k→σi[k]?=σ[i]?
  b:∀(k:Nat) (ys:List OT),ei[k]?=some (some (.l ys))→∃(i:Nat) (xs:List OT),e[i]?=some (some (.l xs))∧pos i=some k∧σi[k]?=σ[i]?
section
variable{K:OU}{σ σi σi':L2.St}{F H F' H':Hp}{e ei ei':En}{pos:Nat→Option Nat}
def HJ(e:En):Prop:=∀(i:Nat) (xss:List (List OT)),e[i]?≠some (some (.n xss))
theorem uw.own(s:uw σ e σi ei pos)(hn:HJ ei){a:xM}{H H':Hp}(h:bA σi ei H a):∃(i k:Nat) (xs:List OT),e[i]?=some (some (.l xs))∧pos i=some k∧σ[i]?=some (some (.ref a)):=by
  obtain⟨k,⟨ys,h1,h2⟩ | ⟨xss,_,_,h1,_⟩⟩:=h
  · obtain⟨i,xs,g1,g2,g3⟩:=s.b k ys h1
    exact⟨i,k,xs,g1,g2,by rw [←g3];exact h2⟩
  · exact absurd h1 (hn k xss)
theorem vN(R:a_ K F H σ e)(s:uw σ e σi ei pos)(hnn:HJ ei)(sf:aq F F')(dom:∀a,H' a=none→H a=none)(fr:∀a vs,F a=none→H a=some (.lst vs)→¬bA σi ei H a→F' a=none)(lst:∀a vs,H a=some (.lst vs)→∃vs',H' a=some (.lst vs'))
    (tmp:∀a o,H a=some o→¬bA σi ei H a→H' a=some o)(fd:∀a (m:DI),F a=none→H a=some m.1→¬bA σi ei H a→F' a=none)(R':a_ K F' H' σi' ei')(hσ:∀(i k:Nat) (xs:List OT),e[i]?=some (some (.l xs))→pos i=some k→σi'[k]?=σi[k]?)(hsh:∀(i k:Nat) (xs:List OT),e[i]?=some (some (.l xs))→pos i=some k→∃ys,ei'[k]?=some (some (.l ys))):
    a_ K F' H' σ (qN pos ei' e)∧dP σ F H e F' H' (qN pos ei' e)∧∀a,bA σ (qN pos ei' e) H' a→bA σ e H a:=by
  have shp:∀i:Nat,(∃xs,(qN pos ei' e)[i]?=some (some (.l xs)))↔ (∃xs,e[i]?=some (some (.l xs))):=by
    intro i
    rw [bX]
    match h:e[i]? with
    | none=>simp
    | some none=>simp
    | some (some (.d x))=>simp
    | some (some (.n x))=>simp
    | some (some (.l xs))=>
      simp only [Qe]
      constructor
      · intro _;exact⟨xs,rfl⟩
      · intro _
        match hp:pos i with
        | none=>exact⟨xs,rfl⟩
        | some k=>
          obtain⟨ys,g⟩:=hsh i k xs h hp
          exact⟨ys,by show some ((ei'[k]?).join)=_;rw [g];rfl⟩
  have oth:∀(i:Nat) (s:Sv),(∀xs,s≠.l xs)→((qN pos ei' e)[i]?=some (some s)↔ e[i]?=some (some s)):=by
    intro i s hs
    constructor
    · intro h
      rw [bX] at h
      match h1:e[i]?,h with
      | some (some (.d y)),h=>exact h
      | some (some (.n y)),h=>exact h
      | some (some (.l ys)),h=>
        simp only [Qe,Rr] at h
        match hp:pos i,h with
        | none,h=>cases h;exact absurd rfl (hs _)
        | some k,h=>
          obtain⟨zs,g⟩:=hsh i k ys h1 hp
          change (ei'[k]?).join=_ at h
          rw [g] at h;cases h;exact absurd rfl (hs _)
      | some none,h=>simp at h
      | none,h=>simp at h
    · intro h
      rw [bX,h]
      cases s with
      | d y=>rfl
      | n y=>rfl
      | l y=>exact absurd rfl (hs y)
  have out:∀i a,Fp σ e H i a→(∀k xs,e[i]?=some (some (.l xs))→pos i≠some k)→¬bA σi ei H a:=by
    intro i a hi hp z
    obtain⟨j,k,ws,d1,d2,d3⟩:=s.own hnn (H':=H') z
    have:i=j:=R.fp i j a hi (.inl ⟨ws,d1,d3⟩)
    subst this
    exact hp k ws d1 d2
  have keep:∀i a o,Fp σ e H i a→(∀k xs,e[i]?=some (some (.l xs))→pos i≠some k)→H a=some o→H' a=some o:=fun i a o hi hp ha=>tmp a o ha (out i a hi hp)
  have sown:∀a,bA σi ei H a→bA σ e H a:=fun a z=>by
    obtain⟨j,k,ws,d1,d2,d3⟩:=s.own hnn (H':=H') z
    exact⟨j,.inl ⟨ws,d1,d3⟩⟩
  have fs:∀i a,Fp σ (qN pos ei' e) H' i a↔ Fp σ e H i a:=by
    intro i a
    have key:∀xss l,e[i]?=some (some (.n xss))→σ[i]?=some (some (.ref l))→H' l=H l:=fun xss l h1 h2=>by
      obtain⟨l',bs,g1,g2,g3,_⟩:=R.nst i xss h1
      rw [h2] at g1;cases g1
      rw [g3]
      exact keep i l _ (.inr ⟨xss,l,bs,h1,h2,g3,.inl rfl⟩) (fun k xs z=>by rw [h1] at z;cases z) g3
    constructor
    · rintro(⟨xs,h1,h2⟩ | ⟨xss,l,bs,h1,h2,h3,h4⟩)
      · obtain⟨ys,h⟩:=(shp i).mp ⟨xs,h1⟩
        exact .inl ⟨ys,h,h2⟩
      · have h1':=(oth i (.n xss) (fun _ z=>nomatch z)).mp h1
        exact .inr ⟨xss,l,bs,h1',h2,by rw [←key xss l h1' h2];exact h3,h4⟩
    · rintro(⟨xs,h1,h2⟩ | ⟨xss,l,bs,h1,h2,h3,h4⟩)
      · obtain⟨ys,h⟩:=(shp i).mpr ⟨xs,h1⟩
        exact .inl ⟨ys,h,h2⟩
      · exact .inr ⟨xss,l,bs,(oth i (.n xss) (fun _ z=>nomatch z)).mpr h1,h2,by rw [key xss l h1 h2];exact h3,h4⟩
  refine⟨⟨R'.sm,?_,fun i x h=>?_,fun i xs h=>?_,fun i xss h=>?_,fun i j a h1 h2=>R.fp i j a ((fs i a).mp h1) ((fs j a).mp h2)⟩,⟨sf,dom,fun a vs h1 h2 n=>fr a vs h1 h2 fun z=>n (sown a z),lst,fun a o h n=>tmp a o h fun z=>n (sown a z),shp,fun a ⟨i,h⟩=>.inl ⟨i,(fs i a).mp h⟩,fun a m h1 h2 n=>fd a m h1 h2 fun z=>n (sown a z)⟩,fun a ⟨i,h⟩=>⟨i,(fs i a).mp h⟩⟩
  · unfold qN;rw [List.length_mapIdx];exact R.len
  · obtain⟨v,g1,g2⟩:=R.dat i x ((oth i (.d x) (fun _ z=>nomatch z)).mp h)
    exact⟨v,g1,DA.mono sf g2⟩
  · obtain⟨ys,h1⟩:=(shp i).mp ⟨xs,h⟩
    obtain⟨l,vs,g1,g2,g3,g4⟩:=R.own i ys h1
    rw [bX,h1] at h
    simp only [Qe,Rr] at h
    match hp:pos i,h with
    | none,h=>
      cases h
      have np:∀k xs,e[i]?=some (some (Sv.l xs))→pos i≠some k:=fun k xs _ z=>by rw [hp] at z;cases z
      have fi:Fp σ e H i l:=.inl ⟨_,h1,g1⟩
      exact⟨l,vs,g1,fr l vs g2 g3 (out i l fi np),keep i l _ fi np g3,g4.mono sf⟩
    | some k,h=>
      obtain⟨zs,c1⟩:=hsh i k ys h1 hp
      change (ei'[k]?).join=_ at h
      rw [c1] at h;cases h
      obtain⟨l',vs',d1,d2,d3,d4⟩:=R'.own k _ c1
      rw [hσ i k ys h1 hp,s.a i k ys h1 hp] at d1
      exact⟨l',vs',d1,d2,d3,d4⟩
  · have h1:=(oth i (.n xss) (fun _ z=>nomatch z)).mp h
    obtain⟨l,bs,g1,g2,g3,g4,g5,g6,g7⟩:=R.nst i xss h1
    have np:∀k xs,e[i]?=some (some (Sv.l xs))→pos i≠some k:=fun k xs z=>by rw [h1] at z;cases z
    have fi:Fp σ e H i l:=.inr ⟨xss,l,bs,h1,g1,g3,.inl rfl⟩
    refine⟨l,bs,g1,fr l _ g2 g3 (out i l fi np),keep i l _ fi np g3,g4,g5,g6,fun k b ys q1 q2=>?_⟩
    obtain⟨c1,us,c2,c3⟩:=g7 k b ys q1 q2
    have fb:Fp σ e H i b:=.inr ⟨xss,l,bs,h1,g1,g3,.inr (OQ q1)⟩
    exact⟨fr b _ c1 c2 (out i b fb np),us,keep i b _ fb np c2,c3.mono sf⟩
end
def bZ(e:En):List Rv→Option (List Sv)
  | []=>some []
  | .d x::r=>(bZ e r).map (.d x::·)
  | .l xs::r=>(bZ e r).map (.d (.list xs)::·)
  | .s i::r=>match e[i]? with
    | some (some (.l xs))=>(bZ e r).map (.l xs::·)
    | _=>none
def aJ:List Rv→List Nat
  | []=>[]
  | .s i::r=>i::aJ r
  | .d _::r=>aJ r
  | .l _::r=>aJ r
def lB(rs:List Rv)(i:Nat):Option Nat:=rs.findIdx? fun r=>match r with
  | .s j=>j==i
  | _=>false
def noS:Rv→Prop
  | .s _=>False
  | _=>True
abbrev FM:=List Sv→Option (Rv × List Sv)
def el(K:OU)(n:Nat)(m:FM):Sp:=fun vs H Q _=>vs.length=n∧∃F as r as',a_ K F H (vs.map some) (as.map some)∧HJ (as.map some)∧m as=some (r,as')∧noS r∧
  ∀F' H' v,dP (vs.map some) F H (as.map some) F' H' (as'.map some)→a_ K F' H' (vs.map some) (as'.map some)→cD K (vs.map some) H F' H' (as'.map some) r v→Q v H'
def bh:List Rv→List Sv→Bool
  | [],[]=>true
  | .s _::r,.l _::s=>bh r s
  | .d _::r,_::s=>bh r s
  | .l _::r,_::s=>bh r s
  | _,_=>false
def p6:Rv→Bool
  | .s _=>false
  | _=>true
def dC:List Rv→List Sv→En→En
  | .s i::r,.l ys::s,e=>dC r s (e.set i (some (.l ys)))
  | .d _::r,_::s,e=>dC r s e
  | .l _::r,_::s,e=>dC r s e
  | _,_,e=>e
def dX(n:Nat)(m:FM)(fs:FA):FE:=fun e=>(fs e).bind fun p=>(bZ p.2 p.1).bind fun as=>(m as).bind fun z=>if p.1.length=n∧(aJ p.1).Nodup∧bh p.1 z.2=true∧p6 z.1=true then some (z.1,dC p.1 z.2 p.2) else none
theorem jC:∀{rs:List Rv} {as:List Sv},bh rs as=true→∀(k i:Nat),rs[k]?=some (.s i)→∃ys,as[k]?=some (.l ys)
  | [],[],_,k,i,h=>by simp at h
  | .s j::r,.l ys::s,h,k,i,hk=>by
    cases k with
    | zero=>exact⟨ys,rfl⟩
    | succ k=>simpa using jC (rs:=r) (as:=s) (by simpa [bh] using h) k i (by simpa using hk)
  | .d x::r,y::s,h,k,i,hk=>by
    cases k with
    | zero=>simp at hk
    | succ k=>simpa using jC (rs:=r) (as:=s) (by simpa [bh] using h) k i (by simpa using hk)
  | .l x::r,y::s,h,k,i,hk=>by
    cases k with
    | zero=>simp at hk
    | succ k=>simpa using jC (rs:=r) (as:=s) (by simpa [bh] using h) k i (by simpa using hk)
  | .s _::_,.d _::_,h,_,_,_=>by simp [bh] at h
  | .s _::_,[],h,_,_,_=>by simp [bh] at h
  | .d _::_,[],h,_,_,_=>by simp [bh] at h
  | .l _::_,[],h,_,_,_=>by simp [bh] at h
theorem nD{r0:Rv}{rs:List Rv}{i:Nat}:lB (r0::rs) i=if (match r0 with | .s j=>j==i | _=>false)=true then some 0 else(lB rs i).map (· +1):=by
  unfold lB;rw [List.findIdx?_cons]
theorem nE{rs:List Rv}{i k:Nat}(h:lB rs i=some k):rs[k]?=some (.s i):=by
  unfold lB at h
  rw [TH] at h
  obtain⟨hk,h1,_⟩:=h
  rw [QA hk]
  split at h1
  · rename_i heq
    rw [heq]
    have:=eq_of_beq h1
    rw [this]
  · cases h1
theorem gY:∀{rs:List Rv} {i:Nat},i∈aJ rs↔ Rv.s i∈rs
  | [],i=>by simp [aJ]
  | .s j::r,i=>by simp [aJ,gY (rs:=r)]
  | .d x::r,i=>by simp [aJ,gY (rs:=r)]
  | .l x::r,i=>by simp [aJ,gY (rs:=r)]
theorem iw:∀{rs:List Rv} {i k j:Nat},(aJ rs).Nodup→rs[k]?=some (.s i)→rs[j]?=some (.s i)→k=j
  | [],i,k,j,_,h,_=>by simp at h
  | .s m::r,i,k,j,hn,h1,h2=>by
    simp only [aJ,Rj] at hn
    cases k with
    | zero=>
      simp at h1;subst h1
      cases j with
      | zero=>rfl
      | succ j=>exact absurd (gY.mpr (OQ (by simpa using h2))) hn.1
    | succ k=>
      cases j with
      | zero=>
        simp at h2;subst h2
        exact absurd (gY.mpr (OQ (by simpa using h1))) hn.1
      | succ j=>
        have:=iw (rs:=r) (i:=i) (k:=k) (j:=j) hn.2 (by simpa using h1) (by simpa using h2)
        lia
  | .d x::r,i,k,j,hn,h1,h2=>by
    cases k with
    | zero=>simp at h1
    | succ k=>
      cases j with
      | zero=>simp at h2
      | succ j=>
        have:=iw (rs:=r) (i:=i) (k:=k) (j:=j) (by simpa [aJ] using hn) (by simpa using h1) (by simpa using h2)
        lia
  | .l x::r,i,k,j,hn,h1,h2=>by
    cases k with
    | zero=>simp at h1
    | succ k=>
      cases j with
      | zero=>simp at h2
      | succ j=>
        have:=iw (rs:=r) (i:=i) (k:=k) (j:=j) (by simpa [aJ] using hn) (by simpa using h1) (by simpa using h2)
        lia
theorem A7{rs:List Rv}{i:Nat}(h:i∉aJ rs):lB rs i=none:=by
  unfold lB
  rw [SN]
  intro r hr
  cases r with
  | d x=>rfl
  | l x=>rfl
  | s j=>
    have:j≠i:=fun z=>h (by rw [←z];exact gY.mpr hr)
    simpa using this
theorem oY:∀{rs:List Rv} {as:List Sv} {e:En},(aJ rs).Nodup→bh rs as=true→(∀j∈aJ rs,∃xs,e[j]?=some (some (.l xs)))→dC rs as e=qN (lB rs) (as.map some) e
  | [],[],e,_,_,_=>by
    refine Rm fun i=>?_
    rw [bX]
    have:lB [] i=none:=rfl
    rw [this]
    simp only [dC]
    match e[i]? with
    | none=>rfl
    | some none=>rfl
    | some (some (.d x))=>rfl
    | some (some (.l x))=>rfl
    | some (some (.n x))=>rfl
  | .d x::r,y::s,e,hn,hl,hs=>by
    rw [show dC (.d x::r) (y::s) e=dC r s e from rfl,oY (by simpa [aJ] using hn) (by simpa [bh] using hl) (fun j hj=>hs j (by simpa [aJ] using hj))]
    refine Rm fun i=>?_
    rw [bX,bX,nD]
    cases lB r i<;>simp
  | .l x::r,y::s,e,hn,hl,hs=>by
    rw [show dC (.l x::r) (y::s) e=dC r s e from rfl,oY (by simpa [aJ] using hn) (by simpa [bh] using hl) (fun j hj=>hs j (by simpa [aJ] using hj))]
    refine Rm fun i=>?_
    rw [bX,bX,nD]
    cases lB r i<;>simp
  | .s k::r,.l ys::s,e,hn,hl,hs=>by
    simp only [aJ,Rj] at hn
    obtain⟨xs,hk⟩:=hs k (by simp [aJ])
    have hlt:k < e.length:=(OM hk).1
    rw [show dC (.s k::r) (.l ys::s) e=dC r s (e.set k (some (.l ys))) from rfl,oY hn.2 (by simpa [bh] using hl) (fun j hj=>by
      have z:k≠j:=fun z=>hn.1 (by rw [z];exact hj)
      rw [Pm z]
      exact hs j (by simp [aJ,hj]))]
    refine Rm fun i=>?_
    rw [bX,bX,nD]
    by_cases z:k=i
    · subst z
      rw [Qb hlt,hk,A7 hn.1]
      simp
    · rw [Pm z]
      have:((match (Rv.s k) with | .s j=>j==i | _=>false)=true)=False:=by simp [z]
      simp only [this,if_false]
      cases lB r i<;>simp
  | .s _::_,.d _::_,_,_,h,_=>by simp [bh] at h
  | .s _::_,.n _::_,_,_,h,_=>by simp [bh] at h
  | .s _::_,[],_,_,h,_=>by simp [bh] at h
  | .d _::_,[],_,_,h,_=>by simp [bh] at h
  | .l _::_,[],_,_,h,_=>by simp [bh] at h
  | [],_::_,_,_,h,_=>by simp [bh] at h
theorem gJ{e:En}:∀{rs:List Rv} {as:List Sv},bZ e rs=some as→∀j∈aJ rs,∃xs,e[j]?=some (some (.l xs))
  | [],_,_,j,h=>by simp [aJ] at h
  | .d x::rs,as,q,j,h=>by
    obtain⟨as',q1,rfl⟩:=OL q
    exact gJ q1 j (by simpa [aJ] using h)
  | .l x::rs,as,q,j,h=>by
    obtain⟨as',q1,rfl⟩:=OL q
    exact gJ q1 j (by simpa [aJ] using h)
  | .s k::rs,as,q,j,h=>by
    unfold bZ at q
    match he:e[k]?,q with
    | some (some (.l xs)),q=>
      obtain⟨as',q1,rfl⟩:=OL q
      simp only [aJ,QI] at h
      rcases h with rfl | h
      · exact⟨xs,he⟩
      · exact gJ q1 j h
theorem lL{e:En}:∀{rs:List Rv} {as:List Sv} {k i:Nat},bZ e rs=some as→rs[k]?=some (.s i)→∃xs,as[k]?=some (.l xs)
  | [],_,k,i,_,h=>by simp at h
  | .d x::rs,as,k,i,q,h=>by
    obtain⟨as',q1,rfl⟩:=OL q
    cases k with
    | zero=>simp at h
    | succ k=>simpa using lL (k:=k) (i:=i) q1 (by simpa using h)
  | .l x::rs,as,k,i,q,h=>by
    obtain⟨as',q1,rfl⟩:=OL q
    cases k with
    | zero=>simp at h
    | succ k=>simpa using lL (k:=k) (i:=i) q1 (by simpa using h)
  | .s j::rs,as,k,i,q,h=>by
    unfold bZ at q
    match he:e[j]?,q with
    | some (some (.l xs)),q=>
      obtain⟨as',q1,rfl⟩:=OL q
      cases k with
      | zero=>exact⟨xs,rfl⟩
      | succ k=>simpa using lL (k:=k) (i:=i) q1 (by simpa using h)
section
variable{X:Cx}{K:OU}{σ:L2.St}{H0 H:Hp}{e:En}
theorem oV:∀{rs:List Rv} {vs:List V} {as:List Sv} {F:Hp},a_ K F H σ e→em K σ H0 F H e rs vs→bZ e rs=some as→
    ∃F',a_ K F' H σ e∧aq F F'∧(∀a,F a=none→H0 a≠none→F' a=none)∧vs.length=as.length∧rs.length=as.length∧
      (∀(k:Nat) (x:OT),as[k]?=some (.d x)→∃v,vs[k]?=some v∧DA K F' x v)∧∀(k:Nat) (xs:List OT),as[k]?=some (.l xs)→∃i,rs[k]?=some (.s i)∧e[i]?=some (some (.l xs))∧∃v,vs[k]?=some v∧σ[i]?=some (some v)
  | [],vs,as,F,R,h,q=>by
    cases q
    have h':vs=[]:=h
    subst h'
    exact⟨F,R,aq.refl _,fun _ h _=>h,rfl,rfl,fun k x h=>by simp at h,fun k x h=>by simp at h⟩
  | .d x::rs,_,as,F,R,h,q=>by
    obtain⟨v,ws,rfl,h1,h2⟩:=h
    obtain⟨as',q1,rfl⟩:=OL q
    obtain⟨F',R',s',f',l1,l2,d',o'⟩:=oV R h2 q1
    refine⟨F',R',s',f',by simp [l1],by simp [l2],fun k y hk=>?_,fun k ys hk=>?_⟩
    · cases k with
      | zero=>simp at hk;subst hk;exact⟨v,rfl,DA.mono s' h1⟩
      | succ k=>simpa using d' k y (by simpa using hk)
    · cases k with
      | zero=>simp at hk
      | succ k=>simpa using o' k ys (by simpa using hk)
  | .l xs::rs,_,as,F,R,h,q=>by
    obtain⟨v,ws,rfl,h1,h2⟩:=h
    obtain⟨as',q1,rfl⟩:=OL q
    obtain⟨F',R',s',f',l1,l2,d',o'⟩:=oV R h2 q1
    have key:∃F2,a_ K F2 H σ e∧aq F' F2∧(∀a,F' a=none→H0 a≠none→F2 a=none)∧DA K F2 (.list xs) v:=by
      obtain⟨l,us,rfl,g1,g2,g3,g4,g5⟩:=h1
      cases hl:F' l with
      | none=>
        have h1':cD K σ H0 F' H e (.l xs) (.ref l):=⟨l,us,rfl,g1,hl,g3,aP.mono s' g4,g5⟩
        obtain⟨F2,R2,s2,d2,f2⟩:=h1'.frozen R'
        exact⟨F2,R2,s2,f2,d2⟩
      | some o=>
        have:=R'.sm _ _ hl
        rw [g3] at this;cases this
        exact⟨F',R',aq.refl _,fun _ h _=>h,et.mpr ⟨l,us,rfl,.inl (.inl hl),aP.mono s' g4⟩⟩
    obtain⟨F2,R2,s2,f2,d2⟩:=key
    refine⟨F2,R2,s'.trans s2,fun a ha hn=>f2 a (f' a ha hn) hn,by simp [l1],by simp [l2],fun k y hk=>?_,fun k ys hk=>?_⟩
    · cases k with
      | zero=>simp at hk;subst hk;exact⟨v,rfl,d2⟩
      | succ k=>
        obtain⟨u,c1,c2⟩:=d' k y (by simpa using hk)
        exact⟨u,by simpa using c1,DA.mono s2 c2⟩
    · cases k with
      | zero=>simp at hk
      | succ k=>simpa using o' k ys (by simpa using hk)
  | .s i::rs,_,as,F,R,h,q=>by
    obtain⟨v,ws,rfl,h1,h2⟩:=h
    unfold bZ at q
    match he:e[i]?,q with
    | some (some (.l xs)),q=>
      obtain⟨as',q1,rfl⟩:=OL q
      obtain⟨F',R',s',f',l1,l2,d',o'⟩:=oV R h2 q1
      refine⟨F',R',s',f',by simp [l1],by simp [l2],fun k y hk=>?_,fun k ys hk=>?_⟩
      · cases k with
        | zero=>simp at hk
        | succ k=>simpa using d' k y (by simpa using hk)
      · cases k with
        | zero=>simp at hk;subst hk;exact⟨i,rfl,he,v,rfl,h1.1⟩
        | succ k=>simpa using o' k ys (by simpa using hk)
theorem gQ{α:Type}{l:List α}{k:Nat}{x:α}:(l.map some)[k]?=some (some x)↔ l[k]?=some x:=by
  rw [PF]
  cases l[k]?<;>simp
theorem cD.noS{σ':L2.St}{e':En}{F H:Hp}{r:Rv}{v:V}(h:cD K σ' H0 F H e' r v)(n:L2.noS r)(ho:∀a,bA σ e H a→H0 a≠none):cD K σ H0 F H e r v:=by
  cases r with
  | d x=>exact h
  | l xs=>
    obtain⟨l,vs,e1,h1,h2,h3,h4,_⟩:=h
    exact⟨l,vs,e1,h1,h2,h3,h4,fun z=>ho l z h1⟩
  | s i=>exact absurd n (by simp [L2.noS])
theorem jl:∀{rs:List Rv} {as:List Sv},bZ e rs=some as→HJ (as.map some)
  | [],_,q=>by cases q;intro i xss h;simp at h
  | .d x::rs,as,q=>by
    obtain⟨as',q1,rfl⟩:=OL q
    have ih:=jl q1
    intro i xss h
    cases i with
    | zero=>simp at h
    | succ i=>exact ih i xss (by simpa using h)
  | .l x::rs,as,q=>by
    obtain⟨as',q1,rfl⟩:=OL q
    have ih:=jl q1
    intro i xss h
    cases i with
    | zero=>simp at h
    | succ i=>exact ih i xss (by simpa using h)
  | .s j::rs,as,q=>by
    unfold bZ at q
    match he:e[j]?,q with
    | some (some (.l xs)),q=>
      obtain⟨as',q1,rfl⟩:=OL q
      have ih:=jl q1
      intro i xss h
      cases i with
      | zero=>simp at h
      | succ i=>exact ih i xss (by simpa using h)
theorem Hy{n:Nat}{m:FM}{fs:FA}{Q:VK}{E:XK}(h:fE K (dX n m fs) σ H Q):qL (el K n m) [] E (fA K fs) σ H Q:=by
  obtain⟨F,e,z,e',R,hf,q⟩:=h
  unfold dX at hf
  obtain⟨⟨rs,e1⟩,h1,hf⟩:=OK hf
  obtain⟨as,h2,hf⟩:=OK hf
  obtain⟨⟨r,as'⟩,h3,hf⟩:=OK hf
  split at hf
  case isFalse=>cases hf
  case isTrue hc=>
  obtain⟨c1,c2,c3,c4⟩:=hc
  cases hf
  refine⟨F,e,rs,e1,R,h1,fun F1 H1 vs X1 R1 A1=>?_⟩
  obtain⟨F2,R2,s2,f2,l1,l2,d2,o2⟩:=oV R1 A1 h2
  have X2:=X1.frz s2 f2
  rw [Qo]
  have hn:L2.noS r:=by
    cases r with
    | d x=>trivial
    | l x=>trivial
    | s i=>cases c4
  have nN:=jl h2
  have RA:a_ K F2 H1 (vs.map some) (as.map some):=by
    refine⟨R2.sm,by simp [l1],fun k x hk=>?_,fun k xs hk=>?_,fun k xss hk=>absurd hk (nN k xss),fun k j l f1 f2=>?_⟩
    · obtain⟨v,g1,g2⟩:=d2 k x (gQ.mp hk)
      exact⟨v,gQ.mpr g1,g2⟩
    · obtain⟨i,g1,g2,v,g3,g4⟩:=o2 k xs (gQ.mp hk)
      obtain⟨l,us,k1,k2,k3,k4⟩:=R2.own i xs g2
      rw [g4] at k1;cases k1
      exact⟨l,us,gQ.mpr g3,k2,k3,k4⟩
    · obtain⟨xs,g1,g3⟩:=f1.resolve_right fun⟨xss,_,_,z,_⟩=>nN k xss z
      obtain⟨ys,g2,g4⟩:=f2.resolve_right fun⟨xss,_,_,z,_⟩=>nN j xss z
      obtain⟨i1,a1,a2,v1,a3,a4⟩:=o2 k xs (gQ.mp g1)
      obtain⟨i2,b1,b2,v2,b3,b4⟩:=o2 j ys (gQ.mp g2)
      have e1:=gQ.mp g3
      have e2:=gQ.mp g4
      rw [a3] at e1;cases e1
      rw [b3] at e2;cases e2
      have:i1=i2:=R2.inj i1 i2 xs ys l a2 b2 a4 b4
      subst this
      exact iw c2 a1 b1
  have sub:uw σ e1 (vs.map some) (as.map some) (lB rs):=by
    refine⟨fun i k xs g1 g2=>?_,fun k ys g1=>?_⟩
    · have g3:=nE g2
      obtain⟨zs,hs⟩:=lL h2 g3
      obtain⟨i',a1,a2,v,a3,a4⟩:=o2 k zs hs
      rw [g3] at a1;cases a1
      rw [gQ.mpr a3,a4]
    · obtain⟨i,a1,a2,v,a3,a4⟩:=o2 k ys (gQ.mp g1)
      refine⟨i,ys,a2,?_,by rw [gQ.mpr a3,a4]⟩
      cases hp:lB rs i with
      | none=>
        unfold lB at hp
        rw [SN] at hp
        have:=hp _ (OQ a1)
        simp at this
      | some j=>rw [iw c2 (nE hp) a1]
  refine⟨by rw [l1,←l2];exact c1,F2,as,r,as',RA,nN,h3,hn,fun F' H' v X3 R3 A3=>?_⟩
  obtain⟨R4,X4,o4⟩:=vN R2 sub nN X3.sf X3.dom X3.fr X3.lst X3.tmp X3.fd R3 (fun _ _ _ _ _=>rfl) fun i k xs g1 g2=>by
    obtain⟨ys,g3⟩:=jC c3 k i (nE g2)
    exact⟨ys,gQ.mpr g3⟩
  have hb:=oY (e:=e1) c2 c3 (gJ h2)
  rw [←hb] at R4 X4 o4
  exact q F' H' v (X2.trans X4) R4 ((A3.noS hn fun a z=>R2.ownH a (o4 a z)).weak X2.dom)
theorem bI{x:Str}{st:Pa}{f:xM}{fd:Pj}{ps:List Str}{k n:Nat}{m:FM}{a:OV}{es:List OV}{fs:FA}{p pos:Pos}(h:ee X.K X.mg x st f fd ps)(G:aF X.prog X.w X.K X.mg X.base bS k f fd ps (el K n m))(hr:bG k X.A)(ha:PA X (a::es) (fA K fs))
    (hg:Gl X x)(hdb:(x==("__debug__":Str))=false)(he:Pd (a::es) X.env=(false,Pf a X.env)::Pd es X.env)(hpl:(Po pos (Pd es X.env)).any (·.1)=false):
    PE X (.Call (.Name x p) (a::es) [] pos) (fE K (dX n m fs)):=(Dv h G hr ha hg hdb he hpl).mono fun _ _ _ h=>Hy h
def sE:List Sv→En→Option (List Sv)
  | [],_=>some []
  | .d x::r,e=>(sE r e.tail).map (.d x::·)
  | .l _::r,e=>match e.head? with
    | some (some (.l ys))=>(sE r e.tail).map (.l ys::·)
    | _=>none
  | .n _::_,_=>none
def pM(n:Nat)(e:En):Rv→Option Rv
  | .s i=>if n≤i then match e[i]? with
      | some (some (.l xs))=>some (.l xs)
      | _=>none
    else none
  | r=>some r
def jQ(W:List Nat)(as:List Sv):Bool:=W.all fun j=>match as[j]? with
  | some (.l _)=>false
  | _=>true
def iO(n k:Nat)(W:List Nat)(f:FS):FM:=fun as=>if as.length=n∧jQ W as=true then(f (as.map some++Pi k none)).bind fun fl=>match fl with
    | .rt r e=>(pM n e r).bind fun r'=>(sE as e).map fun as'=>(r',as')
    | .nx e=>(sE as e).map fun as'=>(.d .none,as')
    | _=>none
  else none
theorem pj:∀{as as':List Sv} {e:En},sE as e=some as'→as'.length=as.length∧(∀(j:Nat) (x:OT),as'[j]?=some (.d x)↔ as[j]?=some (.d x))∧(∀(j:Nat) (ys:List OT),as'[j]?=some (.l ys)→(∃xs,as[j]?=some (.l xs))∧e[j]?=some (some (.l ys)))∧∀(j:Nat) (xs:List OT),as[j]?=some (.l xs)→∃ys,as'[j]?=some (.l ys)
  | [],_,e,h=>by cases h;simp
  | .d x::r,_,e,h=>by
    obtain⟨s,h1,rfl⟩:=OL h
    obtain⟨g1,g2,g3,g4⟩:=pj h1
    refine⟨by simp [g1],fun j y=>?_,fun j ys hj=>?_,fun j xs hj=>?_⟩
    · cases j with
      | zero=>simp
      | succ j=>simpa using g2 j y
    · cases j with
      | zero=>simp at hj
      | succ j=>
        obtain⟨c1,c2⟩:=g3 j ys (by simpa using hj)
        refine⟨by simpa using c1,?_⟩
        rw [List.getElem?_tail] at c2
        exact c2
    · cases j with
      | zero=>simp at hj
      | succ j=>simpa using g4 j xs (by simpa using hj)
  | .l xs::r,_,e,h=>by
    unfold sE at h
    match he:e.head?,h with
    | some (some (.l ys)),h=>
      obtain⟨s,h1,rfl⟩:=OL h
      obtain⟨g1,g2,g3,g4⟩:=pj h1
      refine⟨by simp [g1],fun j y=>?_,fun j zs hj=>?_,fun j zs hj=>?_⟩
      · cases j with
        | zero=>simp
        | succ j=>simpa using g2 j y
      · cases j with
        | zero=>
          simp at hj;subst hj
          exact⟨⟨xs,rfl⟩,by rw [List.head?_eq_getElem?] at he;exact he⟩
        | succ j=>
          obtain⟨c1,c2⟩:=g3 j zs (by simpa using hj)
          refine⟨by simpa using c1,?_⟩
          rw [List.getElem?_tail] at c2
          exact c2
      · cases j with
        | zero=>exact⟨ys,rfl⟩
        | succ j=>simpa using g4 j zs (by simpa using hj)
  | .n x::r,_,e,h=>by simp [sE] at h
end
theorem fF{α:Type}{l:List (Option α)}{k i:Nat}{x:α}(h:(l++Pi k none)[i]?=some (some x)):l[i]?=some (some x):=by
  rw [List.getElem?_append] at h
  split at h
  · exact h
  · rw [Td] at h
    split at h<;>simp at h
theorem fX{α:Type}{l:List (Option α)}{k i:Nat}{x:α}(h:l[i]?=some (some x)):(l++Pi k none)[i]?=some (some x):=by
  have hi:i < l.length:=(OM h).1
  rw [QQ hi];exact h
section
variable{K:OU}{F H:Hp}{σ:L2.St}{e:En}{k:Nat}
theorem tD{i:Nat}{a:xM}:Fp (σ++Pi k none) (e++Pi k none) H i a↔ Fp σ e H i a:=by
  constructor
  · rintro(⟨xs,h1,h2⟩ | ⟨xss,l,bs,h1,h2,h3⟩)
    · exact .inl ⟨xs,fF h1,fF h2⟩
    · exact .inr ⟨xss,l,bs,fF h1,fF h2,h3⟩
  · rintro(⟨xs,h1,h2⟩ | ⟨xss,l,bs,h1,h2,h3⟩)
    · exact .inl ⟨xs,fX h1,fX h2⟩
    · exact .inr ⟨xss,l,bs,fX h1,fX h2,h3⟩
theorem dq{a:xM}:bA (σ++Pi k none) (e++Pi k none) H a↔ bA σ e H a:=⟨fun⟨i,h⟩=>⟨i,tD.mp h⟩,fun⟨i,h⟩=>⟨i,tD.mpr h⟩⟩
theorem a_.pad(R:a_ K F H σ e):a_ K F H (σ++Pi k none) (e++Pi k none):=by
  refine⟨R.sm,by simp [R.len],fun i x h=>?_,fun i xs h=>?_,fun i xss h=>?_,fun i j a h1 h2=>R.fp i j a (tD.mp h1) (tD.mp h2)⟩
  · obtain⟨v,g1,g2⟩:=R.dat i x (fF h)
    exact⟨v,fX g1,g2⟩
  · obtain⟨l,vs,g1,g2⟩:=R.own i xs (fF h)
    exact⟨l,vs,fX g1,g2⟩
  · obtain⟨l,bs,g1,g2⟩:=R.nst i xss (fF h)
    exact⟨l,bs,fX g1,g2⟩
end
theorem ui:∀{as as':List Sv} {e:En},sE as e=some as'→HJ (as'.map some)
  | [],_,e,h=>by cases h;intro i xss z;simp at z
  | .d x::r,_,e,h=>by
    obtain⟨s,h1,rfl⟩:=OL h
    have ih:=ui h1
    intro i xss z
    cases i with
    | zero=>simp at z
    | succ i=>exact ih i xss (by simpa using z)
  | .l xs::r,_,e,h=>by
    unfold sE at h
    match he:e.head?,h with
    | some (some (.l ys)),h=>
      obtain⟨s,h1,rfl⟩:=OL h
      have ih:=ui h1
      intro i xss z
      cases i with
      | zero=>simp at z
      | succ i=>exact ih i xss (by simpa using z)
  | .n x::r,_,e,h=>by simp [sE] at h
theorem vc{W:List Nat}{as:List Sv}(h:jQ W as=true){j:Nat}{xs:List OT}(hj:as[j]?=some (.l xs)):j∉W:=fun z=>by
  unfold jQ at h
  have:=PY.mp h j z
  rw [hj] at this
  cases this
section
variable{P:OZ}{w:OW}{K:OU}{mg:Str→Option OR}{base:OY}
theorem ee.fn{x:Str}{st:Pa}{f:xM}{fd:Pj}{N ps:List Str}{k n k0:Nat}{W:List Nat}{fb:FS}(h:ee K mg x st f fd ps)(S:aw N ps (ag st))(hn:ps.length=n)(hN:N.length=n+k0)
    (hb:∀(cdv:OR) (A:Pb) (outer:List Env) (s:OS) (H:Hp) (E:XK),bG k (A.deeper (envOfC x (ag st) s.heap.objs.size f cdv))→jj (tu bS P w K mg base N x (ag st) f cdv A outer s H E).nox (cm st) (fS K fb W)):
    aF P w K mg base bS (k+1) f fd ps (el K n (iO n k0 W fb)):=by
  refine h.F.ok S (fun vs H Q E q=>?_) fun cdv A outer s H vs Q E hr hsp=>⟨_,hb cdv A outer s H E hr,?_⟩
  · rw [hn];exact q.1
  · obtain⟨hl,F,as,r,as',R,nN,hm,nr,q⟩:=hsp
    unfold iO at hm
    split at hm
    case isFalse=>cases hm
    case isTrue hc=>
    obtain⟨la,nl⟩:=hc
    obtain⟨fl,h1,hm⟩:=OK hm
    have hst:gG N vs=vs.map some++Pi k0 none:=by unfold gG;rw [hN,hl];congr 2;lia
    rw [hst]
    have key:∀{as':List Sv} {e':En},sE as e'=some as'→∀F' H' σ',dY W (vs.map some++Pi k0 none) F H (as.map some++Pi k0 none) σ' F' H' e'→a_ K F' H' σ' e'→
        dP (vs.map some) F H (as.map some) F' H' (as'.map some)∧a_ K F' H' (vs.map some) (as'.map some)∧∀a,bA (vs.map some) (as'.map some) H' a→bA (vs.map some) (as.map some) H a:=by
      intro as' e' hu F' H' σ' X' R'
      obtain⟨u1,u2,u3,u4⟩:=pj hu
      have uN:=ui hu
      have ow:∀a,bA (vs.map some) (as'.map some) H' a→bA (vs.map some) (as.map some) H a:=by
        rintro a ⟨j,⟨ys,c1,c2⟩ | ⟨xss,_,_,z,_⟩⟩
        · obtain⟨⟨xs,c3⟩,_⟩:=u3 j ys (gQ.mp c1)
          exact⟨j,.inl ⟨xs,gQ.mpr c3,c2⟩⟩
        · exact absurd z (uN j xss)
      have sg:∀(j:Nat) (xs:List OT),as[j]?=some (.l xs)→σ'[j]?=(vs.map some)[j]?:=fun j xs hj=>by
        rw [X'.wr j (vc nl hj)]
        have hj2:j < (vs.map some).length:=by rw [Px,hl,←la];exact(OM hj).1
        rw [QQ hj2]
      refine⟨⟨X'.sf,X'.dom,fun a vs h1 h2 hn=>X'.fr a vs h1 h2 fun z=>hn (dq.mp z),X'.lst,fun a o ha hn=>X'.tmp a o ha fun z=>hn (dq.mp z),fun j=>?_,fun a z=>.inl (ow a z),fun a m h1 h2 hn=>X'.fd a m h1 h2 fun z=>hn (dq.mp z)⟩,⟨R'.sm,?_,fun j y hj=>?_,fun j ys hj=>?_,fun j xss hj=>absurd hj (uN j xss),fun j i l f1 f2=>?_⟩,ow⟩
      · constructor
        · rintro⟨ys,hj⟩
          obtain⟨⟨xs,c⟩,_⟩:=u3 j ys (gQ.mp hj)
          exact⟨xs,gQ.mpr c⟩
        · rintro⟨xs,hj⟩
          obtain⟨ys,c⟩:=u4 j xs (gQ.mp hj)
          exact⟨ys,gQ.mpr c⟩
      · simp [u1,hl,la]
      · obtain⟨v,c1,c2⟩:=R.dat j y (gQ.mpr ((u2 j y).mp (gQ.mp hj)))
        exact⟨v,c1,DA.mono X'.sf c2⟩
      · obtain⟨⟨xs,c1⟩,c2⟩:=u3 j ys (gQ.mp hj)
        obtain⟨l,us,d1,d2⟩:=R'.own j ys c2
        exact⟨l,us,by rw [←sg j xs c1];exact d1,d2⟩
      · obtain⟨xs,g1,g3⟩:=f1.resolve_right fun⟨xss,_,_,z,_⟩=>uN j xss z
        obtain⟨ys,g2,g4⟩:=f2.resolve_right fun⟨xss,_,_,z,_⟩=>uN i xss z
        obtain⟨⟨zs,c1⟩,c2⟩:=u3 j xs (gQ.mp g1)
        obtain⟨⟨ws,c3⟩,c4⟩:=u3 i ys (gQ.mp g2)
        exact R'.inj j i xs ys l c2 c4 (by rw [sg j zs c1];exact g3) (by rw [sg i ws c3];exact g4)
    refine⟨F,as.map some++Pi k0 none,fl,R.pad,h1,?_⟩
    cases fl with
    | bk e'=>cases hm
    | ct e'=>cases hm
    | nx e'=>
      obtain⟨as2,h2,hm⟩:=OL hm
      cases hm
      intro F' H' σ' X' R'
      obtain⟨X2,R2,_⟩:=key h2 F' H' σ' X' R'
      exact q F' H' .non X2 R2 ((fB (K:=K) (F:=F')).mpr rfl)
    | rt r0 e'=>
      obtain⟨r1,h2,hm⟩:=OK hm
      obtain⟨as2,h3,hm⟩:=OL hm
      cases hm
      intro F' H' σ' v X' R' A'
      obtain⟨X2,R2,ow2⟩:=key h3 F' H' σ' X' R'
      have noo:∀l,H l=none→¬bA (vs.map some) (as'.map some) H' l:=fun l hl z=>R.ownH l (ow2 l z) hl
      refine q F' H' v X2 R2 ?_
      cases r0 with
      | d y=>cases h2;exact A'
      | l ys=>
        cases h2
        obtain⟨l,us,d0,d1,d2,d3,d4,_⟩:=A'
        exact⟨l,us,d0,d1,d2,d3,d4,noo l d1⟩
      | s i=>
        simp only [pM] at h2
        split at h2
        case isFalse=>cases h2
        case isTrue hi=>
        obtain⟨a1,xs,a2⟩:=A'
        rw [a2] at h2
        cases h2
        obtain⟨l,us,d1,d2,d3,d4⟩:=R'.own i _ a2
        rw [a1] at d1;cases d1
        suffices hl0:H l=none from⟨l,us,rfl,hl0,d2,d3,d4,noo l hl0⟩
        rcases X'.own l ⟨i,.inl ⟨_,a2,a1⟩⟩ with z | z
        · obtain⟨j,zf⟩:=dq.mp z
          obtain⟨ys,z1,z2⟩:=zf.resolve_right fun⟨xss,_,_,z,_⟩=>nN j xss z
          have z1':=gQ.mp z1
          obtain⟨u1,u2,u3,u4⟩:=pj h3
          obtain⟨ws,w1⟩:=u4 j ys z1'
          obtain⟨_,w2⟩:=u3 j ws w1
          have hj2:j < vs.length:=by rw [hl,←la];exact(OM z1').1
          have e3:σ'[j]?=some (some (.ref l)):=by
            rw [X'.wr j (vc nl z1'),QQ (by simpa using hj2)]
            exact z2
          have:=R'.inj i j _ ws l a2 w2 a1 e3
          lia
        · exact z
end
def IF:Option Sv→Option Sv
  | some (.n _)=>none
  | s=>s
def ut(cp:List (Nat × Str))(nT:Nat)(e:En):En:=cp.map (fun p=>IF (e[p.1]?).join)++Pi nT none
def oO(cp:List (Nat × Str))(i:Nat):Option Nat:=cp.findIdx? fun p=>p.1==i
def iW(g:FG)(ft:FT)(fe:FE):List OT→En→List OT→Option (List OT × En)
  | [],e,acc=>some (acc,e)
  | x::r,e,acc=>(g x e).bind fun e1=>(ft e1).bind fun b=>if b.1=true then(fe b.2).bind fun v=>(hR v.1).bind fun d=>if acc.length < 1000000 then iW g ft fe r v.2 (acc++[d]) else none else iW g ft fe r b.2 acc
def lq(cp:List (Nat × Str))(ei e:En):Bool:=cp.all fun p=> !zA e[p.1]? || zA ei[(oO cp p.1).getD 0]?
def cZ(cp:List (Nat × Str))(nT:Nat)(fi:FI)(g:FG)(ft:FT)(fe:FE):FE:=fun e=>(fi e).bind fun p=>if (p.2.1.all fun q=> !(cp.any fun c=>c.1==q.1))=true then(iW g ft fe p.1 (ut cp nT p.2.2) []).bind fun z=>if lq cp z.2 p.2.2=true then some (.l z.1,qN (oO cp) z.2 p.2.2) else none else none
section
variable{K:OU}{F H:Hp}{σ:L2.St}{e:En}{cp:List (Nat × Str)}{nT:Nat}
theorem gZ{i k:Nat}(h:oO cp i=some k):∃s,cp[k]?=some (i,s):=by
  unfold oO at h
  rw [TH] at h
  obtain⟨hk,h1,_⟩:=h
  refine⟨cp[k].2,?_⟩
  rw [QA hk]
  have:=eq_of_beq h1
  rw [←this]
theorem kB{k:Nat}{x:Sv}(h:(ut cp nT e)[k]?=some (some x)):∃i s,cp[k]?=some (i,s)∧e[i]?=some (some x):=by
  unfold ut at h
  have h:=fF h
  rw [PF] at h
  obtain⟨p,h1,h2⟩:=OL h
  refine⟨p.1,p.2,h1,?_⟩
  cases q:e[p.1]? with
  | none=>rw [q] at h2;cases h2
  | some y=>
    rw [q] at h2
    match y,h2 with
    | some (.d z),h2=>exact congrArg some h2
    | some (.l z),h2=>exact congrArg some h2
    | some (.n z),h2=>cases h2
    | none,h2=>cases h2
theorem mn:HJ (ut cp nT e):=by
  intro k xss h
  unfold ut at h
  have h:=fF h
  rw [PF] at h
  obtain⟨p,h1,h2⟩:=OL h
  match (e[p.1]?).join,h2 with
  | some (.d z),h2=>cases h2
  | some (.l z),h2=>cases h2
  | some (.n z),h2=>cases h2
  | none,h2=>cases h2
theorem ph{k i:Nat}{s:Str}{v:V}(h:cp[k]?=some (i,s))(hv:σ[i]?=some (some v)):(jM cp nT σ)[k]?=some (some v):=by
  unfold jM
  refine fX ?_
  rw [PF,h]
  simp [hv]
theorem qI{k i:Nat}{s:Str}{v:V}(h:cp[k]?=some (i,s))(hv:(jM cp nT σ)[k]?=some (some v)):σ[i]?=some (some v):=by
  unfold jM at hv
  have hv:=fF hv
  rw [PF,h] at hv
  simp only [Qe,Rr] at hv
  cases q:σ[i]? with
  | none=>rw [q] at hv;cases hv
  | some y=>rw [q] at hv;exact congrArg some hv
theorem tf:∀{cp:List (Nat × Str)} {k j i:Nat} {s t:Str},(cp.map (·.1)).Nodup→cp[k]?=some (i,s)→cp[j]?=some (i,t)→k=j
  | [],k,j,i,s,t,_,h,_=>by simp at h
  | p::r,k,j,i,s,t,hn,h1,h2=>by
    simp only [Pw,Rj] at hn
    cases k with
    | zero=>
      simp at h1;subst h1
      cases j with
      | zero=>rfl
      | succ j=>
        have hm:(i,t)∈r:=OQ (i:=j) (by simpa using h2)
        exact absurd (Rt.mpr ⟨(i,t),hm,rfl⟩) hn.1
    | succ k=>
      cases j with
      | zero=>
        simp at h2;subst h2
        have hm:(i,s)∈r:=OQ (i:=k) (by simpa using h1)
        exact absurd (Rt.mpr ⟨(i,s),hm,rfl⟩) hn.1
      | succ j=>
        have:=tf (cp:=r) (k:=k) (j:=j) hn.2 (by simpa using h1) (by simpa using h2)
        lia
theorem a_.inn(R:a_ K F H σ e)(hn:(cp.map (·.1)).Nodup):a_ K F H (jM cp nT σ) (ut cp nT e)∧uw σ e (jM cp nT σ) (ut cp nT e) (oO cp):=by
  refine⟨⟨R.sm,by simp [jM,ut],fun k x h=>?_,fun k xs h=>?_,fun k xss h=>absurd h (mn k xss),fun k j l f1 f2=>?_⟩,⟨fun i k xs h1 h2=>?_,fun k ys h=>?_⟩⟩
  · obtain⟨i,s,h1,h2⟩:=kB h
    obtain⟨v,g1,g2⟩:=R.dat i x h2
    exact⟨v,ph h1 g1,g2⟩
  · obtain⟨i,s,h1,h2⟩:=kB h
    obtain⟨l,vs,g1,g2⟩:=R.own i xs h2
    exact⟨l,vs,ph h1 g1,g2⟩
  · obtain⟨xs,h1,h3⟩:=f1.resolve_right fun⟨xss,_,_,z,_⟩=>mn k xss z
    obtain⟨ys,h2,h4⟩:=f2.resolve_right fun⟨xss,_,_,z,_⟩=>mn j xss z
    obtain⟨i,s,a1,a2⟩:=kB h1
    obtain⟨i',s',b1,b2⟩:=kB h2
    have:i=i':=R.inj i i' xs ys l a2 b2 (qI a1 h3) (qI b1 h4)
    subst this
    exact tf hn a1 b1
  · obtain⟨s,g⟩:=gZ h2
    obtain⟨l,vs,g1,_⟩:=R.own i xs h1
    rw [g1];exact ph g g1
  · obtain⟨i,s,h1,h2⟩:=kB h
    obtain⟨l,vs,g1,_⟩:=R.own i ys h2
    refine⟨i,ys,h2,?_,by rw [g1];exact ph h1 g1⟩
    cases hp:oO cp i with
    | none=>
      unfold oO at hp
      rw [SN] at hp
      have:=hp _ (OQ h1)
      simp at this
    | some j=>
      obtain⟨t,g⟩:=gZ hp
      rw [tf hn g h1]
theorem a_.putT(R:a_ K F H σ e){l:xM}{ws:List V}(h1:F l=none)(h2:¬bA σ e H l):a_ K F (bE H l (.lst ws)) σ e∧∀a,bA σ e (bE H l (.lst ws)) a↔ bA σ e H a:=
  R.keep (aq.refl F) (fun b o q=>by
    have z:b≠l:=fun z=>by rw [z,h1] at q;cases q
    rw [ax z];exact R.sm b o q) (fun a ⟨i,h⟩=>(R.fpAt h).1) fun a o ha q=>by
      have z:a≠l:=fun z=>h2 (by rw [←z];exact ha)
      rw [ax z];exact q
theorem dY.putT{W:List Nat}{σ':L2.St}{F' H':Hp}{e':En}(x:dY W σ F H e σ' F' H' e'){l:xM}{o:HO}(h:H l=none)(ho:∀a,bA σ' e' (bE H' l o) a↔ bA σ' e' H' a):dY W σ F H e σ' F' (bE H' l o) e':=by
  refine⟨x.sf,fun a q=>?_,x.fr,fun a vs q=>?_,fun a u q n=>?_,fun a q=>x.own a ((ho a).mp q),x.wr,x.fd⟩
  · by_cases z:a=l
    · rw [z];exact h
    · rw [ax z] at q;exact x.dom a q
  · have z:a≠l:=fun z=>by rw [z,h] at q;cases q
    rw [ax z];exact x.lst a vs q
  · have z:a≠l:=fun z=>by rw [z,h] at q;cases q
    rw [ax z];exact x.tmp a u q n
inductive CI (K:OU) (W:List Nat) (σ0:L2.St) (F1 H1:Hp) (e0:En) (l:xM) (P:Hp→En→List OT→Prop) (σ':L2.St) (H':Hp):Prop
  | mk {F':Hp} {ei:En} {acc:List OT} {vs:List V} (R:a_ K F' H' σ' ei) (X:dY W σ0 F1 H1 e0 σ' F' H' ei) (fl:F' l=none) (no:¬bA σ' ei H' l) (hl:H' l=some (.lst vs)) (da:aP K F' acc vs) (hc:P F' ei acc):CI K W σ0 F1 H1 e0 l P σ' H'
theorem B7{Q:VK}{fi:FI}{g:FG}{W:List Nat}{ft:FT}{fe:FE}(hn:(cp.map (·.1)).Nodup)(hW:∀j∈W,cp.length≤j)(h:fE K (cZ cp nT fi g ft fe) σ H Q):BX cp nT (fI K fi) (fG K g W) (fT K ft) (fE K fe) σ H Q:=by
  obtain⟨F0,e0,z,e',R0,hf,q⟩:=h
  unfold cZ at hf
  obtain⟨⟨items,own,e1⟩,h1,hf⟩:=OK hf
  dsimp only at hf
  split at hf
  case isFalse=>cases hf
  case isTrue hO=>
  obtain⟨⟨out,eo⟩,h2,hf⟩:=OK hf
  dsimp only at hf
  split at hf
  case isFalse=>cases hf
  case isTrue hB=>
  cases hf
  refine⟨⟨F0,e0,items,own,e1,R0,h1,fun J F1 H1 X1 R1 kp ok=>?_⟩⟩
  intro l hl
  obtain⟨Ri,sub⟩:=R1.inn (nT:=nT) hn
  have hFl:F1 l=none:=R1.freeF hl
  let Iv:Nat→L2.St→Hp→Prop:=fun i=>CI K W (jM cp nT σ) F1 H1 (ut cp nT e1) l fun _ ei acc=>iW g ft fe (items.drop i) ei acc=some (out,eo)
  have notown:∀p∈own,∀a,σ[p.1]?=some (some (.ref a))→¬bA (jM cp nT σ) (ut cp nT e1) H1 a:=by
    rintro p hp a ha ⟨k,zf⟩
    obtain⟨xs,c1,c2⟩:=zf.resolve_right fun⟨xss,_,_,z,_⟩=>mn k xss z
    obtain⟨i,s,d1,d2⟩:=kB c1
    have e2:=qI d1 c2
    have:p.1=i:=R1.inj p.1 i p.2 xs a (kp p hp) d2 ha e2
    have hh:=PY.mp hO p hp
    simp only [Bool.not_eq_true',List.any_eq_false,beq_iff_eq] at hh
    exact hh (i,s) (OQ d1) this.symm
  refine⟨fun i m σ' H'=>m=items.length - i∧i≤items.length∧Iv i σ' H',⟨items.length,by simp,QP _,.mk (Ri.putT hFl (fun z=>(Ri.ownH l z) hl)).1 (dY.refl.putT hl (Ri.putT hFl (fun z=>(Ri.ownH l z) hl)).2) hFl (fun z=>(Ri.ownH l (((Ri.putT hFl (fun z=>(Ri.ownH l z) hl)).2 l).mp z)) hl) av aP.nil h2⟩,?_⟩
  rintro i m σ' H' ⟨rfl,hi,⟨R',X',fl,no,hl',da,hc⟩⟩
  rename_i F' ei acc vs
  have held:zB K σ F' H' own:=fun p hp=>by
    obtain⟨a,us,c1,c2,c3,c4⟩:=R1.own p.1 p.2 (kp p hp)
    exact⟨a,us,c1,X'.tmp a _ c3 (notown p hp a c1),c4.mono X'.sf⟩
  obtain⟨go,stop,yld⟩:=ok F' H' X'.sf R'.sm held
  by_cases hlt:i < items.length
  · have hd:items.drop i=items[i]::items.drop (i+1):=Tq hlt
    rw [hd] at hc
    unfold iW at hc
    obtain⟨e2,c2,hc⟩:=OK hc
    obtain⟨⟨b,e3⟩,c3,hc⟩:=OK hc
    refine .inr ⟨go i hlt,Iv (i+1),fun σ2 H2 r=>⟨items.length - (i+1),by lia,rfl,hlt,r⟩,fun x H2 hy=>?_⟩
    obtain⟨F2,sH,sF2,sm2,fz,hx⟩:=yld i items[i] x H2 (QA hlt) hy
    obtain⟨R2,X2⟩:=R'.step sH sF2 sm2 fz
    refine⟨F2,ei,items[i],e2,R2,hx,c2,fun σ3 X3 R3=>⟨F2,e2,b,e3,R3,c3,fun F4 H4 X4 R4=>?_⟩⟩
    have hlH2:H2 l=some (.lst vs):=sH _ _ hl'
    have no2:¬bA σ' ei H2 l:=fun z=>by
      rcases X2.ow l z with z | z
      · exact no z
      · rw [hl'] at z;cases z
    have no3:¬bA σ3 e2 H2 l:=fun z=>by
      rcases X3.own l z with z | z
      · exact no2 z
      · rw [hlH2] at z;cases z
    have fl2:F2 l=none:=fz l fl (by rw [hl'];simp)
    have hlH4:H4 l=some (.lst vs):=X4.tmp l _ hlH2 no3
    have fl4:F4 l=none:=X4.fr l vs fl2 hlH2 no3
    have no4:¬bA σ3 e3 H4 l:=fun z=>by
      rcases X4.ow l z with z | z
      · exact no3 z
      · rw [hlH2] at z;cases z
    have E4:dY W (jM cp nT σ) F1 H1 (ut cp nT e1) σ3 F4 H4 e3:=((X'.trans X2.s).trans X3).trans X4.s
    cases b with
    | false=>
      rw [if_neg (by simp)] at hc
      exact Iy (.mk R4 E4 fl4 no4 hlH4 (da.mono (sF2.trans X4.sf)) hc)
    | true=>
      rw [if_pos rfl] at hc
      obtain⟨⟨r,e5⟩,c5,hc⟩:=OK hc
      obtain⟨d,c6,hc⟩:=OK hc
      split at hc
      case isFalse=>cases hc
      case isTrue hlen=>
      refine Iz ⟨F4,e3,r,e5,R4,c5,fun F5 H5 v X5 R5 A5=>?_⟩
      have hlH5:H5 l=some (.lst vs):=X5.tmp l _ hlH4 no4
      have fl5:F5 l=none:=X5.fr l vs fl4 hlH4 no4
      have no5:¬bA σ3 e5 H5 l:=fun z=>by
        rcases X5.ow l z with z | z
        · exact no4 z
        · rw [hlH4] at z;cases z
      obtain⟨F6,R6,s6,d6,f6⟩:=em.frozen R5 (rs:=[r]) (vs:=[v]) ⟨v,[],rfl,A5,rfl⟩ (yF c6)
      have fl6:F6 l=none:=f6 l fl5 (by rw [hlH4];simp)
      have X6:=X5.frz s6 f6
      have ll:=da.len
      have sl:Pk=16777216:=Qg
      have dv:DA K F6 d v:=by
        simp only [aP] at d6
        obtain⟨v',r',e',hv,_⟩:=d6
        cases e';exact hv
      obtain⟨R7,o7⟩:=R6.putT (ws:=vs++[v]) fl6 no5
      exact⟨vs,hlH5,by lia,.mk R7 ((E4.trans X6.s).putT hl o7) fl6 (fun z=>no5 ((o7 l).mp z)) av ((da.mono (sF2.trans (X4.sf.trans (X5.sf.trans s6)))).append (aP.one dv)) hc⟩
  · have hd:items.drop i=[]:=Tr (by lia)
    rw [hd] at hc
    cases hc
    refine .inl ⟨stop i (by lia),?_⟩
    obtain⟨R9,X9,o9⟩:=vN R1 sub mn X'.sf X'.dom X'.fr X'.lst X'.tmp X'.fd R' (fun i k xs g1 g2=>X'.wr k fun z=>by
      obtain⟨s,g⟩:=gZ g2
      have:=(OM g).1
      have:=hW k z
      lia) fun i k xs g1 g2=>by
        obtain⟨s,g⟩:=gZ g2
        unfold lq at hB
        have hb:=PY.mp hB _ (OQ g)
        simp only [g1,g2,SJ,zA,Bool.not_true,Bool.false_or] at hb
        exact CQ.mp hb
    exact q F' H' (.ref l) (X1.trans X9) R9 ⟨l,vs,rfl,X1.dom l hl,fl,hl',da,fun z=>R1.ownH l (o9 l z) hl⟩
end
section
variable{X:Cx}{K:OU}{a b:OV}{es:List OV}{fa fb:FE}{fs:FA}{pos p p2 p3:Pos}{lo hi:Option OV}
def FD:En→Rv→Option Rv:=fun _ x=>(cK x).map fun i=>.d (.int (-i))
theorem IS:HH K (rU fun i=>.int (-i)) FD:=by
  intro σ H0 F H e x z v Q R A hg q
  obtain⟨i,h5,h4⟩:=OL hg
  cases h4
  exact⟨i,dJ A h5,q F H _ (dP.refl _ _ _ _) R qr⟩
theorem Jd(ha:PE X a (fE K fa)):PE X (.UnaryOp .USub a pos) (fE K (uo FD fa)):=Jf Hx IS ha
theorem dA(hK:X.K=K)(ha:PE X a (fE K fa))(hb:PE X b (fE K fb)):PE X (.BinOp a .Add b pos) (fE K (ay cV fa fb)):=qk (hK ▸ xY) Em ha hb
theorem Bj(ha:PE X a (fE K fa))(hb:PE X b (fE K fb)):PE X (.BinOp a .Sub b pos) (fE K (ay m9 fa fb)):=qk GQ Jy ha hb
theorem rZ(hK:X.K=K)(ha:PE X a (fE K fa))(hb:PE X b (fE K fb)):PE X (.BinOp a .Mult b pos) (fE K (ay pQ fa fb)):=qk (hK ▸ Dp) IQ ha hb
theorem kd(ha:PE X a (fE K fa))(hb:PE X b (fE K fb)):PE X (.BinOp a .FloorDiv b pos) (fE K (ay hV fa fb)):=qk AS Fz ha hb
theorem bB(ha:PE X a (fE K fa))(hb:PE X b (fE K fb)):PE X (.BinOp a .Mod b pos) (fE K (ay bD fa fb)):=qk Do IP ha hb
theorem EN(ha:PE X a (fE K fa))(hb:PE X b (fE K fb)):PE X (.BinOp a .Pow b pos) (fE K (ay wz fa fb)):=qk GO I_ ha hb
theorem b_(hK:X.K=K)(ha:PE X a (fE K fa))(hb:PE X b (fE K fb))(hs:oU b):PE X (.Subscript a b pos) (fE K (ay dI fa fb)):=Je (hK ▸ IB) IC ha hb hs
theorem o6{fl fh:FO}(hK:X.K=K)(he:PE X a (fE K fa))(hl:PO X lo (fO K fl))(hh:PO X hi (fO K fh)):PE X (.Subscript a (.Slice lo hi none p2) pos) (fE K (vV fa fl fh)):=by subst hK;exact Bo he hl hh
structure oE (X:Cx) (K:OU) (op:CmpOp) (g:En→Rv→Rv→Option Rv):Prop where
  ex:∃r,iC X (PZ op) r∧iy K r g
theorem Cy:oE X K .Lt EA:=⟨_,IX,KL⟩
theorem zK:oE X K .Gt Ey:=⟨_,IW,Ky⟩
theorem zJ:oE X K .GtE Ex:=⟨_,IV,Kx⟩
theorem iA{k:Nat}(hK:X.K=K)(hr:bG k X.A):oE X K .Eq (bi false):=⟨_,hK ▸ GH hr,Eu⟩
theorem wk{k:Nat}(hK:X.K=K)(hr:bG k X.A):oE X K .NotEq (bi true):=⟨_,hK ▸ GN hr,Eu⟩
theorem wf{k:Nat}(hK:X.K=K)(hr:bG k X.A):oE X K .In (tF false):=⟨_,hK ▸ GI hr,Im⟩
theorem Cz{k:Nat}(hK:X.K=K)(hr:bG k X.A):oE X K .NotIn (tF true):=⟨_,hK ▸ y4 hr,Im⟩
theorem HZ:oE X K .Is HI:=⟨_,GJ,KD⟩
theorem sW:oE X K .IsNot lx:=⟨_,yY,CS⟩
theorem ol{op:CmpOp}{g:En→Rv→Rv→Option Rv}(h:oE X K op g)(ha:PE X a (fE K fa))(hb:PE X b (fE K fb))(hm:QC op b=false):PE X (.Compare a [op] [b] pos) (fE K (ay g fa fb)):=by
  obtain⟨r,h1,h2⟩:=h.ex;exact G7 h1 h2 ha hb hm
theorem aO{op:CmpOp}{g:En→Rv→Rv→Option Rv}(h:oE X K op g)(ha:PE X a (fE K fa))(hb:PE X b (fE K fb))(hm:QC op b=false):PT X (.Compare a [op] [b] pos) (fT K (aA (ay g fa fb))):=by
  obtain⟨r,h1,h2⟩:=h.ex;exact G9 h1 h2 ha hb hm
structure lh (X:Cx) (K:OU) (x:Str) (g:En→List Rv→Option Rv):Prop where
  ex:(∃id r,dB X (.builtin id) r∧dz K r g∧QK x=some (.builtin id))∨∃T r,dB X (.type T) r∧dz K r g∧QK x=some (.type T)
theorem aW{x:Str}{g:En→List Rv→Option Rv}(h:lh X K x g)(hg:Gl X x)(hm:X.mg x=none)(ha:PA X (a::es) (fA K fs))(hn:x≠"__name__")(hdb:(x==("__debug__":Str))=false)
    (he:Pd (a::es) X.env=(false,Pf a X.env)::Pd es X.env)(hpl:(Po pos (Pd es X.env)).any (·.1)=false):PE X (.Call (.Name x p) (a::es) [] pos) (fE K (az g fs)):=by
  rcases h.ex with ⟨id,r,h1,h2,h3⟩ | ⟨T,r,h1,h2,h3⟩
  · exact Bm h1 h2 hg hm h3 ha hn hdb he hpl
  · exact y9 h1 h2 hg hm h3 ha hn hdb he hpl
theorem b_len(hK:X.K=K):lh X K "len" (g1 hX):=⟨.inl ⟨_,_,hK ▸ sX,IE,PySem.boot_len⟩⟩
theorem b_abs:lh X K "abs" (g1 yH):=⟨.inl ⟨_,_,zL,HQ,PyProof.Rows.boot_abs⟩⟩
theorem b_min(hc:X.calm=true):lh X K "min" (g2 z9):=⟨.inl ⟨_,_,yB hc,IM,PyProof.Rows.boot_min⟩⟩
theorem b_max(hc:X.calm=true):lh X K "max" (g2 yM):=⟨.inl ⟨_,_,yA hc,IL,PyProof.Rows.boot_max⟩⟩
theorem b_int:lh X K "int" (g1 pP):=⟨.inr ⟨_,_,yz,Io,PyProof.Rows.boot_int⟩⟩
theorem b_tuple(hK:X.K=K):lh X K "tuple" (g1 eG):=⟨.inr ⟨_,_,hK ▸ qT,D',PyProof.Rows.boot_tuple⟩⟩
theorem Fk(hK:X.K=K):lh X K "list" (g1 Ez):=⟨.inr ⟨_,_,hK ▸ sY,Gj,PyProof.Rows.boot_list⟩⟩
theorem b_sum{k:Nat}(hK:X.K=K)(hr:bG k X.A):lh X K "sum" (g1 (j5 xS)):=⟨.inl ⟨_,_,hK ▸ zO hr,Jz,PyProof.Rows.boot_sum⟩⟩
theorem b_all{k:Nat}(hK:X.K=K)(hr:bG k X.A):lh X K "all" (g1 (j5 uL)):=⟨.inl ⟨_,_,zM hr hK,HR,zH⟩⟩
theorem b_sorted(hK:X.K=K):lh X K "sorted" (g1 eY):=⟨.inl ⟨_,_,hK ▸ wq,DY,PyProof.Rows.boot_sorted⟩⟩
abbrev kh:FT:=fun e=>some (true,e)
theorem Ca.mono{ifs:List OV}{t t':TT}(h:Ca X ifs t)(m:∀σ H Q,t' σ H Q→t σ H Q):Ca X ifs t':=fun pins s σ H Q I q=>h pins s σ H Q I (m σ H Q q)
theorem pe:Ca X [] (fT K kh):=DH.mono fun σ H Q h=>by
  obtain⟨F,e,b,e',R,hf,q⟩:=h
  cases hf
  exact q F H (dP.refl _ _ _ _) R
theorem jK{c:OV}{ft:FT}(h:PT X c (fT K ft)):Ca X [c] (fT K ft):=DK h
variable{o:OV}{fo:FE}{apos cpos:Pos}
theorem ii(hK:X.K=K)(ho:PE X o (fE K fo))(ha:PA X (a::es) (fA K fs))(hbase:Qr o "append" X.env (Pf o X.env)=Pf o X.env)
    (hfew:((Po cpos (Pd (a::es) X.env)).all (fun x=> !x.1)&&(QL cpos (QM [] X.env)).all (fun x=>x.1.isSome)
      &&decide ((a::es).length+([]:List Qh).length+(if ([]:List Qh).isEmpty then 0 else 1) < 30))=true)
    (hline:(apos.endLine==cpos.line)=true)(hs:Pd (a::es) X.env=(false,Pf a X.env)::Pd es X.env)(hplain:(Po cpos (Pd es X.env)).any (·.1)=false):
    PE X (.Call (.Attribute o "append" apos) (a::es) [] cpos) (fE K (ci bH fo fs)):=by
  subst hK;exact EO PySem.F.slot_list_append PySem.F.type_list_append rW zD ho ha hbase hfew hline hs hplain
theorem DN(hK:X.K=K)(ho:PE X o (fE K fo))(ha:PA X (a::es) (fA K fs))(hbase:Qr o "pop" X.env (Pf o X.env)=Pf o X.env)
    (hfew:((Po cpos (Pd (a::es) X.env)).all (fun x=> !x.1)&&(QL cpos (QM [] X.env)).all (fun x=>x.1.isSome)
      &&decide ((a::es).length+([]:List Qh).length+(if ([]:List Qh).isEmpty then 0 else 1) < 30))=true)
    (hline:(apos.endLine==cpos.line)=true)(hs:Pd (a::es) X.env=(false,Pf a X.env)::Pd es X.env)(hplain:(Po cpos (Pd es X.env)).any (·.1)=false):
    PE X (.Call (.Attribute o "pop" apos) (a::es) [] cpos) (fE K (ci e_ fo fs)):=by
  subst hK;exact EO SB PySem.F.type_list_pop AA DF ho ha hbase hfew hline hs hplain
theorem EM(hK:X.K=K)(ho:PE X o (fE K fo))(hbase:Qr o "pop" X.env (Pf o X.env)=Pf o X.env)(hline:(apos.endLine==cpos.line)=true):
    PE X (.Call (.Attribute o "pop" apos) [] [] cpos) (fE K (ci mx fo ah)):=by
  subst hK;exact Bl SB PySem.F.type_list_pop Gq I0 ho hbase hline
end
theorem xk{K:OU}{H:Hp}{a:xM}{ns:List Int}{m:FM}{as':List Sv}{Q:VK}{E:XK}(hS:iN K H a (ns.map V.int))(hm:m [.d (.list (ns.map .int))]=some (.d (.bool true),as'))(q:∀H',Q (.bl true) H'):el K 1 m [.ref a] H Q E:=by
  refine⟨rfl,H,[.d (.list (ns.map .int))],_,as',?_,?_,hm,trivial,fun F' H' v X' R' A'=>?_⟩
  · refine⟨aq.refl _,rfl,fun i x h=>?_,fun i xs h=>?_,fun i xss h=>?_,fun i j l f1 _=>?_⟩
    · match i,h with
      | 0,h=>
        simp at h;subst h
        exact⟨.ref a,rfl,et.mpr ⟨a,_,rfl,hS,aP.ints.mpr rfl⟩⟩
      | i+1,h=>simp at h
    · match i,h with
      | 0,h=>simp at h
      | i+1,h=>simp at h
    · match i,h with
      | 0,h=>simp at h
      | i+1,h=>simp at h
    · rcases f1 with ⟨_,h,_⟩ | ⟨_,_,_,h,_⟩
      · match i,h with
        | 0,h=>simp at h
        | i+1,h=>simp at h
      · match i,h with
        | 0,h=>simp at h
        | i+1,h=>simp at h
  · intro i xss h
    match i,h with
    | 0,h=>simp at h
    | i+1,h=>simp at h
  · rw [dQ.mp (show DA K F' (.bool true) v from A')];exact q H'
section
variable{K:OU}{σ:L2.St}{H0 F H F' H':Hp}{e e':En}
end
section
variable{X:Cx}{K:OU}{a b:OV}{es:List OV}{fa fb:FE}{fs:FA}{pos p p2 p3 pos':Pos}{x:Str}{i:Nat}
def nC(k:Int):En→Option Int:=fun _=>some k
end
theorem m6{C:Int→Int→Bool}{f:Int→Int→OT}{e:En}{i j:Int}(h:C i j=true):gI C f e (.d (.int i)) (.d (.int j))=some (.d (f i j)):=by simp [gI,cK,h]
theorem ez{e:En}{i j:Int}:cV e (.d (.int i)) (.d (.int j))=some (.d (.int (i+j))):=rfl
theorem cE{e:En}{i j:Int}:m9 e (.d (.int i)) (.d (.int j))=some (.d (.int (i - j))):=rfl
theorem pR{e:En}{i j:Int}(h:nu i j=true):pQ e (.d (.int i)) (.d (.int j))=some (.d (.int (i*j))):=by
  unfold pQ Cg z_;rw [m6 h];rfl
theorem AC{i j:Int}(h1: -(2 ^ 64) < i)(h2:i < 2 ^ 64):nu i j=true:=by
  have:jN i=true:=by unfold jN;rw [decide_eq_true h1,decide_eq_true h2];rfl
  unfold nu;rw [this];simp
theorem tT{i j:Int}(h1: -(2 ^ 64) < j)(h2:j < 2 ^ 64):nu i j=true:=by
  have:jN j=true:=by unfold jN;rw [decide_eq_true h1,decide_eq_true h2];rfl
  unfold nu;rw [this];simp
theorem ba{e:En}{i j:Int}(h:0 < j):bD e (.d (.int i)) (.d (.int j))=some (.d (.int (i % j))):=by
  unfold bD;rw [m6 (by simp;lia)]
  rw [Int.fmod_eq_emod_of_nonneg i (by lia)]
theorem gW{e:En}{i j:Int}(h:0 < j)(h2:Bt 8000 j):hV e (.d (.int i)) (.d (.int j))=some (.d (.int (i / j))):=by
  unfold hV;rw [m6 (by simp [lO.mpr h2];lia)]
  rw [Int.fdiv_eq_ediv_of_nonneg i (by lia)]
theorem fC{e:En}{i j:Int}{neg:Bool}:bi neg e (.d (.int i)) (.d (.int j))=some (.d (.bool (if neg then !(i==j) else i==j))):=by
  unfold bi;simp [hU,PH,PM,Qj,Qt]
theorem gP{e:En}{i j:Int}:EA e (.d (.int i)) (.d (.int j))=some (.d (.bool (decide (i < j)))):=rfl
theorem gN{e:En}{i j:Int}:LL e (.d (.int i)) (.d (.int j))=some (.d (.bool (decide (i≤j)))):=rfl
theorem gL{e:En}{i j:Int}:Ey e (.d (.int i)) (.d (.int j))=some (.d (.bool (decide (j < i)))):=rfl
theorem gK{e:En}{i j:Int}:Ex e (.d (.int i)) (.d (.int j))=some (.d (.bool (decide (j≤i)))):=rfl
theorem eD{e:En}{i j:Int}:g2 z9 e [.d (.int i),.d (.int j)]=some (.d (.int (min i j))):=by
  show some (Rv.d (.int (if j < i then j else i)))=_
  congr 3
  split<;>lia
theorem eA{e:En}{i j:Int}:g2 yM e [.d (.int i),.d (.int j)]=some (.d (.int (max i j))):=by
  show some (Rv.d (.int (if j > i then j else i)))=_
  congr 3
  split<;>lia
theorem eE{e:En}{i:Int}:FD e (.d (.int i))=some (.d (.int (-i))):=rfl
theorem dg{e:En}{b:Bool}:g1 pP e [.d (.bool b)]=some (.d (.int (if b then 1 else 0))):=rfl
theorem eu{e:En}{i:Int}:g1 yH e [.d (.int i)]=some (.d (.int i.natAbs)):=by
  show some (Rv.d (.int (if i < 0 then -i else i)))=_
  congr 3
  split<;>lia
theorem m4{j:Int}(h1:0 < j)(h2:j < 2 ^ 64):Bt 8000 j:=Bt.mono (m:=64) (by unfold Bt;lia) (by decide)
theorem jn{α:Type}{xs:List α}{i:Int}(h0:0≤i)(h:i < xs.length):atI xs i=xs[i.toNat]?:=by
  unfold atI IA
  rw [if_pos h0,if_pos h];rfl
theorem uM{e:En}{i:Nat}{xs:List OT}{neg:Bool}(h:e[i]?=some (some (.l xs)))(hs:PH (.list xs)=true):bi neg e (.s i) (.l [])=some (.d (.bool (if neg then !xs.isEmpty else xs.isEmpty))):=by
  unfold bi
  simp only [hU,h,Pn,hs]
  have h0:PH (.list [])=true:=by simp [PH,PM,Qp,Qj,QR]
  rw [h0]
  cases xs<;>simp [Qt,PyData.eqvAll]
theorem kg(ns:List Int):PH (.list (ns.map .int))=true∧PH (.tuple (ns.map .int))=true:=by
  have h1:Qp (ns.map PyData.int)=true:=by
    induction ns with
    | nil=>rfl
    | cons n r ih=>simp [Qp,PM,ih]
  have h2:QR (ns.map PyData.int)=0:=by
    clear h1
    induction ns with
    | nil=>rfl
    | cons n r ih=>simp [QR,Qj,ih]
  constructor<;>simp [PH,PM,Qj,h1,h2]
theorem j3{own:jV}{g:FG}{f:FS}(P:Nat→En→Prop):∀(items:List OT) (k:Nat) (e:En),(∀i x e,items[i]?=some x→P (k+i) e→∃e1 e2,g x e=some e1∧f e1=some (.nx e2)∧keeps own e2∧P (k+i+1) e2)→P k e→∃e',kX own g f items e=some (.nx e')∧P (k+items.length) e'
  | [],k,e,_,h=>⟨e,rfl,h⟩
  | x::r,k,e,hs,h=>by
    obtain⟨e1,e2,h1,h2,h3,h4⟩:=hs 0 x e rfl h
    obtain⟨e',h5,h6⟩:=j3 P r (k+1) e2 (fun i y e hy hp=>by
      have:=hs (i+1) y e (by simpa using hy) (by rw [show k+(i+1)=k+1+i by lia];exact hp)
      rw [show k+(i+1)+1=k+1+i+1 by lia] at this
      exact this) h4
    refine⟨e',?_,by rw [QD,show k+(r.length+1)=k+1+r.length by lia];exact h6⟩
    unfold kX
    simp only [h1,h2,Pn,if_pos h3]
    exact h5
theorem eg{e:En}:keeps [] e:=fun _ h=>by cases h
theorem kP{W:List Nat}{fi:FI}{g:FG}{f:FS}{e e1:En}{items:List OT}(h:fi e=some (items,[],e1)):iM W fi g f e=kX [] g f items e1:=by
  unfold iM;rw [h];rfl
theorem cc{lo:Int}{n i:Nat}{x:OT}(h:(be lo n)[i]?=some x):x=.int (lo+i)∧i < n:=by
  unfold be at h
  rw [PF] at h
  obtain⟨k,h1,rfl⟩:=OL h
  obtain⟨h2,h3⟩:=OM h1
  simp at h2 h3
  subst h3
  exact⟨rfl,h2⟩
theorem fm{lo:Int}{n:Nat}:(be lo n).length=n:=by simp [be]
theorem cF{fs:FA}{e e1:En}{n:Int}(h:fs e=some ([.d (.int n)],e1))(h1: -1000000≤n)(h2:n≤1000000):di fs e=some (be 0 n.toNat,[],e1):=by
  unfold di;rw [h]
  have:BD n=true:=by unfold BD;rw [decide_eq_true h1,decide_eq_true h2];rfl
  simp [cK,this]
theorem qP{ft:FT}{f:FS}(P:En→Prop)(μ:En→Nat)(hs:∀e,P e→(∃e1,ft e=some (false,e1)∧True)∨∃e1 e2,ft e=some (true,e1)∧f e1=some (.nx e2)∧P e2∧μ e2 < μ e):
    ∀(n:Nat) (e:En),P e→μ e < n→∃e0 e',jP ft f n e=some (.nx e')∧P e0∧ft e0=some (false,e'):=by
  intro n
  induction n with
  | zero=>intro e _ h;lia
  | succ n ih=>
    intro e hp hm
    rcases hs e hp with ⟨e1,h1,_⟩ | ⟨e1,e2,h1,h2,h3,h4⟩
    · exact⟨e,e1,by unfold jP;rw [h1];rfl,hp,h1⟩
    · obtain⟨e0,e',g1,g2⟩:=ih e2 h3 (by lia)
      exact⟨e0,e',by unfold jP;rw [h1];simp only [Pn,if_true,h2];exact g1,g2⟩
theorem eX{cs:En}{ft:FT}{fe:FE}{b:OT→Bool}{y:OT→OT}:∀(items:List OT) (t:Option Sv) (acc:List OT),(∀x∈items,ft (cs++[some (.d x)])=some (b x,cs++[some (.d x)]))→(∀x∈items,b x=true→fe (cs++[some (.d x)])=some (.d (y x),cs++[some (.d x)]))→
    acc.length+items.length≤1000000→∃t',iW (aj cs.length) ft fe items (cs++[t]) acc=some (acc++(items.filter b).map y,cs++[t'])
  | [],t,acc,_,_,_=>⟨t,by simp [iW]⟩
  | x::r,t,acc,h1,h2,hl=>by
    have hg:aj cs.length x (cs++[t])=some (cs++[some (.d x)]):=by simp [aj]
    have h1x:=h1 x (by simp)
    unfold iW
    rw [hg]
    simp only [Pn,h1x]
    cases hb:b x with
    | true=>
      simp only [if_true,h2 x (by simp) hb,Pn,hR]
      rw [if_pos (by simp at hl;lia)]
      obtain⟨t',ih⟩:=eX (b:=b) (y:=y) r (some (.d x)) (acc++[y x]) (fun z hz=>h1 z (by simp [hz])) (fun z hz=>h2 z (by simp [hz])) (by simp at hl ⊢;lia)
      exact⟨t',by rw [ih];simp [hb]⟩
    | false=>
      simp only [Ti,if_false]
      obtain⟨t',ih⟩:=eX (b:=b) (y:=y) r (some (.d x)) acc (fun z hz=>h1 z (by simp [hz])) (fun z hz=>h2 z (by simp [hz])) (by simp at hl;lia)
      exact⟨t',by rw [ih];simp [hb]⟩
theorem xA{cp:List (Nat × Str)}{nT:Nat}{fi:FI}{g:FG}{ft:FT}{fe:FE}{e e1 eo:En}{items out:List OT}(h1:fi e=some (items,[],e1))(h3:iW g ft fe items (ut cp nT e1) []=some (out,eo))(h4:(cp.all fun p=> !zA e1[p.1]?)=true):cZ cp nT fi g ft fe e=some (.l out,e1):=by
  unfold cZ
  rw [h1]
  simp only [Pn,List.all_nil,if_true,h3]
  have hb:lq cp eo e1=true:=by
    unfold lq
    rw [PY] at h4 ⊢
    intro p hp
    rw [h4 p hp];rfl
  rw [if_pos hb]
  congr 2
  refine Rm fun i=>?_
  rw [bX]
  match hi:e1[i]? with
  | none=>rfl
  | some none=>rfl
  | some (some (.d x))=>rfl
  | some (some (.n x))=>rfl
  | some (some (.l x))=>
    cases hp:oO cp i with
    | none=>simp [hp]
    | some k=>
      obtain⟨s,hs⟩:=gZ hp
      have:=PY.mp h4 _ (OQ hs)
      simp [hi,zA] at this
theorem pU{fa:FE}{e e1:En}{xs:List OT}(h:fa e=some (.d (.tuple xs),e1)):j7 fa e=some (xs,[],e1):=by
  unfold j7;rw [h];rfl
theorem mX{cp:List (Nat × Str)}{nT:Nat}{fi:FI}{g:FG}{ft:FT}{fe:FE}{e e1 cs:En}{t t':En}{items out:List OT}(h1:fi e=some (items,[],e1))(hc:ut cp nT e1=cs++t)(hl:cs.length=cp.length)(h3:iW g ft fe items (ut cp nT e1) []=some (out,cs++t')):cZ cp nT fi g ft fe e=some (.l out,e1):=by
  have key:∀i x,e1[i]?=some (some (.l x))→∀k,oO cp i=some k→(cs++t')[k]?=some (some (.l x)):=by
    intro i x hi k hk
    obtain⟨s,hs⟩:=gZ hk
    have hk2:k < cp.length:=(OM hs).1
    have:(ut cp nT e1)[k]?=some (some (.l x)):=by
      unfold ut
      rw [QQ (by simpa using hk2),PF,hs]
      simp [hi,IF]
    rw [hc,QQ (by lia)] at this
    rw [QQ (by lia)]
    exact this
  unfold cZ
  rw [h1]
  simp only [Pn,List.all_nil,if_true,h3]
  have hb:lq cp (cs++t') e1=true:=by
    unfold lq
    rw [PY]
    intro p hp
    match hi:e1[p.1]? with
    | none=>simp [zA]
    | some none=>simp [zA]
    | some (some (.d x))=>simp [zA]
    | some (some (.n x))=>simp [zA]
    | some (some (.l x))=>
      cases hq:oO cp p.1 with
      | none=>
        unfold oO at hq
        rw [SN] at hq
        have:=hq p hp
        simp at this
      | some k=>simp [key p.1 x hi k hq,zA]
  rw [if_pos hb]
  congr 2
  refine Rm fun i=>?_
  rw [bX]
  match hi:e1[i]? with
  | none=>rfl
  | some none=>rfl
  | some (some (.d x))=>rfl
  | some (some (.n x))=>rfl
  | some (some (.l x))=>
    cases hp:oO cp i with
    | none=>simp [hp]
    | some k=>simp [hp,key i x hi k hp]
theorem pA{α:Type}{xs:List α}{i:Int}(h0:0≤i)(h1:i < xs.length):∃x∈xs,atI xs i=some x:=by
  rw [jn h0 h1]
  exact⟨xs[i.toNat]'(by lia),SL _,QA _⟩
theorem ma{e:En}{xs:List OT}{i:Int}:dI e (.l xs) (.d (.int i))=(atI xs i).map .d:=rfl
theorem gB{e:En}{xs:List OT}{i:Int}:dI e (.d (.tuple xs)) (.d (.int i))=(atI xs i).map .d:=rfl
theorem jx{e:En}{xs:List OT}{i:Int}:dI e (.d (.list xs)) (.d (.int i))=(atI xs i).map .d:=rfl
theorem md{e:En}{j:Nat}{xs:List OT}{i:Int}(h:e[j]?=some (some (.l xs))):dI e (.s j) (.d (.int i))=(atI xs i).map .d:=by
  simp [dI,eU,h,cK]
theorem jA{e:En}{xs:List OT}:g1 hX e [.d (.tuple xs)]=some (.d (.int xs.length)):=rfl
theorem gO{e:En}{xs:List OT}:g1 hX e [.d (.list xs)]=some (.d (.int xs.length)):=rfl
theorem jy{e:En}{xs:List OT}:g1 hX e [.l xs]=some (.d (.int xs.length)):=rfl
theorem jz{e:En}{j:Nat}{xs:List OT}(h:e[j]?=some (some (.l xs))):g1 hX e [.s j]=some (.d (.int xs.length)):=by
  simp [g1,hX,eU,h]
theorem eI{e:En}{j:Nat}{xs:List OT}(h:e[j]?=some (some (.l xs))):g1 eG e [.s j]=some (.d (.tuple xs)):=by
  simp [g1,eG,eU,h]
theorem eH{e:En}{xs:List OT}:g1 eG e [.l xs]=some (.d (.tuple xs)):=rfl
theorem dh{e:En}{xs:List OT}:g1 eG e [.d (.list xs)]=some (.d (.tuple xs)):=rfl
theorem eJ{e:En}{xs:List OT}:g1 eG e [.d (.tuple xs)]=some (.d (.tuple xs)):=rfl
theorem mf{e:En}{xs:List OT}{lo hi:Option Int}:Ig e (.d (.tuple xs)) lo hi=some (.d (.tuple (lu xs lo hi))):=rfl
theorem m5{e:En}{xs ys:List OT}(h:xs.length+ys.length≤1000000):cV e (.d (.tuple xs)) (.d (.tuple ys))=some (.d (.tuple (xs++ys))):=by
  simp [cV,Cg,xQ,gI,cK,pO,eU,h]
theorem FC{e:En}{i j:Int}(h:j≠0):bD e (.d (.int i)) (.d (.int j))=some (.d (.int (i.fmod j))):=by
  unfold bD;rw [m6 (by simpa using h)]
theorem CL{e:En}{i j:Int}(h:j≠0)(h2:Bt 8000 j):hV e (.d (.int i)) (.d (.int j))=some (.d (.int (i.fdiv j))):=by
  unfold hV;rw [m6 (by simp [lO.mpr h2,h])]
theorem me{e:En}{i j:Int}(h:A8 i j=true):wz e (.d (.int i)) (.d (.int j))=some (.d (.int (i ^ j.toNat))):=by
  unfold wz;rw [m6 h]
theorem mG:A8 10 18=true:=by decide
theorem kQ{f g:FS}{e e1:En}(h:f e=some (.nx e1)):aR f g e=g e1:=by unfold aR;rw [h];rfl
theorem Ju{ft:FT}{f g:FS}{e e1:En}(h:ft e=some (true,e1)):i8 ft f g e=f e1:=by unfold i8;rw [h];rfl
theorem Jt{ft:FT}{f g:FS}{e e1:En}(h:ft e=some (false,e1)):i8 ft f g e=g e1:=by unfold i8;rw [h];rfl
def EE(i:Nat)(e:En):Nat:=match e[i]? with
  | some (some (.l xs))=>xs.length
  | _=>0
def AE(i:Nat)(e:En):Nat:=match e[i]? with
  | some (some (.d (.int k)))=>k.natAbs
  | _=>0
theorem xV{n m:Nat}(h:n < 2 ^ m)(hm:m≤4200):n < 2 ^ 4200:=Qa h (SE (by decide) hm)
theorem jm{α:Type}{a:α}{r:List α}:atI (a::r) 0=some a:=by
  rw [jn (by decide) (by simp)];rfl
theorem er{α:Type}{a b:α}{r:List α}:atI (a::b::r) 1=some b:=by
  rw [jn (by decide) (by simp;lia)];rfl
theorem iI{α:Type}{a b c:α}{r:List α}:atI (a::b::c::r) 2=some c:=by
  rw [jn (by decide) (by simp;lia)];rfl
theorem iJ{α:Type}{a b c d:α}{r:List α}:atI (a::b::c::d::r) 3=some d:=by
  rw [jn (by decide) (by simp;lia)];rfl
theorem iQ{W:aS}{k:Int}(h:ix W k):atI (W.ties.map b5) k=some (b5 (W.tie k)):=by
  rw [jn h.1 (by rw [Px];exact h.2),PF,h.get];rfl
theorem uy{ns:List Int}{k:Int}(h0:0≤k)(h1:k < (ns.length:Int)):atI (ns.map PyData.int) k=some (.int (ns.getD k.toNat 0)):=by
  rw [jn h0 (by rw [Px];exact h1),PF]
  have:k.toNat < ns.length:=by lia
  simp [this]
theorem lU{a b c d:OT}:lu [a,b,c,d] none (some 2)=[a,b]:=rfl
theorem df{a b c d:OT}:lu [a,b,c,d] (some 2) none=[c,d]:=rfl
theorem de{a b c:OT}:lu [a,b,c] (some 1) none=[b,c]:=rfl
theorem uE(ns:List Int):Qp (ns.map PyData.int)=true:=by
  induction ns with
  | nil=>rfl
  | cons n r ih=>simp [Qp,PM,ih]
theorem ux{x:Int}:∀(ns:List Int),((ns.map PyData.int).any fun y=>Qt y (.int x))=ns.contains x
  | []=>rfl
  | n::r=>by
    rw [Pw,SO,ux r,List.contains_cons]
    show(n==x || _)=_
    rw [show(n==x)=(x==n) by rw [RT];simp;exact eq_comm]
theorem dH{e:En}{x:Int}{ns:List Int}{neg:Bool}:tF neg e (.d (.int x)) (.d (.tuple (ns.map .int)))=some (.d (.bool (if neg then !ns.contains x else ns.contains x))):=by
  unfold tF
  simp only [hU,eU,Pn,uE,ux]
  simp [PM,Qj]
theorem gM{e:En}{x a b:Int}{neg:Bool}:tF neg e (.d (.int x)) (.d (.tuple [.int a,.int b]))=some (.d (.bool (if neg then !(a==x || b==x) else(a==x || b==x)))):=by
  have h:=dH (e:=e) (x:=x) (ns:=[a,b]) (neg:=neg)
  simp only [Pw,Qc] at h
  rw [h]
  have:[a,b].contains x=(a==x || b==x):=by
    simp only [List.contains_cons,List.contains_nil,Bool.or_false]
    rw [show(x==a)=(a==x) by rw [RT];simp;exact eq_comm,show(x==b)=(b==x) by rw [RT];simp;exact eq_comm]
  rw [this]
theorem jB{e:En}{ns:List Int}(h:ns.length < 64):g1 eY e [.d (.tuple (ns.map .int))]=some (.l ((je ns).map .int)):=by
  simp [g1,eY,eU,rO,h]
def q_(p:Int→Bool):OT→Bool
  | .int k=>p k
  | _=>false
theorem nG{W:aS}{asked taken:List Int}:((be 0 W.ties.length).filter (q_ fun k=>W.may asked taken k))=(W.can asked taken).map .int:=by
  unfold be aS.can aS.rng
  rw [SQ,SQ,Sg]
  have:(QS W.ties.length).filter ((q_ fun k=>W.may asked taken k) ∘ fun(i:Nat)=>PyData.int (0+(i:Int)))=(QS W.ties.length).filter ((fun k=>W.may asked taken k) ∘ Int.ofNat):=by
    congr 1
    funext i
    simp [q_]
  rw [this]
  refine List.map_congr_left fun i _=>?_
  simp
theorem cJ(W:aS):au W=.tuple [.int W.things,.tuple (W.ties.map b5),.tuple (W.pat.map .int),.int W.asks]:=rfl
def Sh(n:Nat)(d:OT):Prop:=d.canLay0=true∧d.depth≤n
theorem Sh.mono{n m:Nat}{d:OT}(h:Sh n d)(l:n≤m):Sh m d:=⟨h.1,PK h.2 l⟩
theorem Sh.ok{n:Nat}{d:OT}(h:Sh n d)(l:n≤64):PH d=true:=by
  unfold PH;rw [h.1,decide_eq_true (PK h.2 l)];rfl
theorem Sh.int{k:Int}:Sh 2 (.int k):=⟨by simp [PM],by simp [Qj]⟩
theorem Sh.all{n:Nat}:∀{ds:List OT},(∀d∈ds,Sh n d)→Qp ds=true∧QR ds≤n
  | [],_=>⟨rfl,by simp [QR]⟩
  | d::r,h=>by
    obtain⟨a1,a2⟩:=h d (by simp)
    obtain⟨b1,b2⟩:=Sh.all (ds:=r) fun x hx=>h x (by simp [hx])
    exact⟨by simp [Qp,a1,b1],by simp only [QR];lia⟩
theorem Sh.tup{n:Nat}{ds:List OT}(h:∀d∈ds,Sh n d):Sh (n+2) (.tuple ds):=by
  obtain⟨b1,b2⟩:=Sh.all h
  exact⟨by simp [PM,b1],by simp only [Qj];lia⟩
theorem Sh.ints{ns:List Int}:Sh 4 (.tuple (ns.map .int)):=Sh.tup (n:=2) fun d hd=>by
  obtain⟨k,_,rfl⟩:=OO hd
  exact Sh.int
theorem Sh.tie{t:lK}:Sh 6 (b5 t):=Sh.tup (n:=4) fun d hd=>by
  simp only [QI,RI,or_false] at hd
  rcases hd with rfl | rfl | rfl | rfl
  · exact Sh.int.mono (by decide)
  · exact Sh.int.mono (by decide)
  · exact Sh.ints (ns:=[t.top,t.bot])
  · exact Sh.int.mono (by decide)
theorem ve:∀(n:Nat) (l:List Int),l.Nodup→(∀k∈l,0≤k∧k < (n:Int))→l.length≤n
  | 0,l,_,h=>by
    cases l with
    | nil=>simp
    | cons a r=>have:=h a (by simp);lia
  | n+1,l,hd,h=>by
    have ih:=ve n (l.erase (n:Int)) (hd.erase _) fun k hk=>by
      obtain⟨h1,h2⟩:=hd.mem_erase_iff.mp hk
      have:=h k h2
      lia
    by_cases c:(n:Int)∈l
    · rw [List.length_erase_of_mem c] at ih;lia
    · rw [List.erase_of_not_mem c] at ih;lia
abbrev Std:=List Int × List Int
structure iH (W:aS) (s:Std):Prop where
  inw:∀k∈s.1,ix W k
  nd:s.1.Nodup
  tk:s.2.length≤2*s.1.length
  th:∀t∈s.2,0≤t∧t < W.things
def nxt(W:aS)(s:Std)(k:Int)(b:Bool):Std:=(aS.askd s.1 k,W.took s.2 k b)
theorem iH.len{W:aS}{s:Std}(h:iH W s):s.1.length≤W.ties.length:=ve _ _ h.nd fun k hk=>h.inw k hk
theorem iH.first(W:aS):iH W ([],[]):=⟨fun k h=>(by cases h),List.nodup_nil,Pp _,fun k h=>(by cases h)⟩
theorem pz{a:List Int}{k:Int}:(aS.askd a k).length=a.length+1:=by unfold aS.askd;rw [sx];simp
theorem iH.nxt{W:aS}{s:Std}{k:Int}(b:Bool)(ok:W.Ok)(h:iH W s)(hk:ix W k)(hn:k∉s.1):iH W (nxt W s k b):=by
  refine⟨fun j hj=>?_,?_,?_,?_⟩
  · have:=sy.mp hj
    rcases ON this with z | z
    · exact h.inw j z
    · simp at z;rw [z];exact hk
  · refine(lG _).nodup_iff.mpr ?_
    rw [List.nodup_append]
    refine⟨h.nd,by simp,fun a ha b hb=>?_⟩
    simp at hb
    rintro rfl
    exact hn (hb ▸ ha)
  · have:=h.tk
    show(W.took s.2 k b).length≤2*(aS.askd s.1 k).length
    rw [pz]
    unfold aS.took
    split
    · rw [sx];simp;lia
    · lia
  · intro t ht
    have o:=hk.ok ok
    have:=o.o0;have:=o.o1;have:=o.o2
    change t∈W.took s.2 k b at ht
    unfold aS.took at ht
    split at ht
    · rcases ON (sy.mp ht) with z | z
      · exact h.th t z
      · simp at z
        rcases z with rfl | rfl<;>lia
    · exact h.th t ht
structure Nd where
  tie:Int
  yes:Int
  no:Int
def Fd(W:aS)(n:Nat)(S:Nat→Std)(i:Nat)(k:Int)(b:Bool)(l:Int):Prop:=l= -1∨(0≤l∧l < (n:Int)∧S l.toNat=nxt W (S i) k b)
structure Kf (W:aS) (n:Nat) (S:Nat→Std) (i:Nat) (x:Nd):Prop where
  tie:ix W x.tie
  st:iH W (S i)
  may:W.may (S i).1 (S i).2 x.tie=true
  yes:Fd W n S i x.tie true x.yes
  no:Fd W n S i x.tie false x.no
def Km(W:aS)(T:List Nd)(S:Nat→Std):Prop:=∀(i:Nat) (x:Nd),T[i]?=some x→Kf W T.length S i x
structure Wt where
  st:Std
  par:Int
  side:Int
structure Lv (W:aS) (T:List Nd) (S:Nat→Std) (ws:List Wt):Prop where
  tr:Km W T S
  wt:∀w∈ws,iH W w.st∧(w.par= -1∨∃(p:Nat) (x:Nd),w.par=(p:Int)∧T[p]?=some x∧((w.side=0∧w.st=L2.nxt W (S p) x.tie true)∨(w.side=1∧w.st=L2.nxt W (S p) x.tie false)))
  side:∀w∈ws,w.side=0∨w.side=1
theorem BI{W:List Nat}{fi:FI}{g:FG}{f:FS}{e e1:En}{items:List OT}{own:jV}(h:fi e=some (items,own,e1))(ho:(own.all fun q=> !W.contains q.1)=true):iM W fi g f e=kX own g f items e1:=by
  unfold iM;rw [h];simp only [Pn,ho,if_true]
def nm(nums:List Int)(l:Int):Int:=(atI nums l).getD (-1)
structure K' (order:List Int) (n:Nat) (nums:List Int):Prop where
  len:nums.length=n+1
  top:nums[n]?=some (-1)
  at':∀(j:Nat) (v:Int),j < n→nums[j]?=some v→v= -1∨∃p:Nat,v=(p:Int)∧order[p]?=some (j:Int)
def AF(T:List Nd)(w:Int):Nd:=T.getD w.toNat ⟨0,0,0⟩
structure LH (S:Nat→Std) (n:Nat) (ss:List Std):Prop where
  len:ss.length=n
  at':∀(j:Nat) (s:Std),ss[j]?=some s→s.1.length≤(S j).1.length∧s.2.length≤2*s.1.length∧(∀k∈s.1,0≤k∧k < 16)∧∀t∈s.2,0≤t∧t < 12
theorem aB(s:String):Pv (OX s)=true:=by
  rw [Str.ofString_eq_toList]
  unfold Pv
  simp only [Py,Px]
  rw [show(Ro Char.toNat s.toList).toArray.all (fun a=>decide (a < 1114112)) 0 s.toList.length=(Ro Char.toNat s.toList).all (fun a=>decide (a < 1114112)) by simp]
  rw [List.all_map,PY]
  intro c _
  show decide (c.toNat < 1114112)=true
  rw [decide_eq_true_eq]
  have:=c.valid
  unfold UInt32.isValidChar Nat.isValidChar at this
  show c.val.toNat < _
  lia
theorem kS{a b:Str}(h1:Pv a=true)(h2:Pv b=true):Pv (a++b)=true:=by
  unfold Pv at*
  rw [show(a++b).cps=a.cps++b.cps from rfl]
  simp only [Array.all_append,h1,h2,Bool.and_self]
theorem qK{sep:Str}(h:Pv sep=true):∀(ts:List Str),(∀t∈ts,Pv t=true)→Pv (PN sep ts)=true
  | [],_=>by show Pv QV=true;simp [Pv,QV]
  | [x],hx=>hx x (by simp)
  | x::y::r,hx=>kS (kS (hx x (by simp)) h) (qK h (y::r) fun t ht=>hx t (by simp at ht ⊢;exact .inr ht))
structure Sz (n dep:Nat) (d:OT):Prop where
  fl:fU d=true
  sh:d.showable=true
  dp:d.depth≤dep
  ln:d.shown.length≤n
  so:Pv d.shown=true
theorem fD{e:En}{s:Str}(h:Pv s=true):bi false e (.d (.str s)) (.d (.str s))=some (.d (.bool true)):=by
  simp [bi,hU,PH,PM,Qj,Qt,h]
def dR(p:Int × Bool):OT:=.tuple [.int p.1,.bool p.2]
def rn(T:List Nd)(ans:List Bool):Nat→Int→List (Int × Bool)
  | 0,_=>[]
  | f+1,at'=>if at' < 0 then [] else((AF T at').tie,ans.getD (AF T at').tie.toNat false)::rn T ans f (if ans.getD (AF T at').tie.toNat false=true then(AF T at').yes else(AF T at').no)
def rt(T:List Nd):Int:=if T.length=0 then -1 else 0
structure Ld (W:aS) (T:List Nd) (S:Nat→Std) (ans:List Bool) (r:List (Int × Bool)) (a:Int):Prop where
  at':a= -1∨(0≤a∧a < (T.length:Int)∧r.length≤(S a.toNat).1.length)
  eq:r++rn T ans (17 - r.length) a=rn T ans 17 (rt T)
  len:r.length≤16
  inw:∀p∈r,ix W p.1
abbrev Fr:=Int × Int
def tm(a b:Fr):Fr:=gq (a.1*b.1) (a.2*b.2)
def pl(a b:Fr):Fr:=gq (a.1*b.2+b.1*a.2) (a.2*b.2)
structure kW (M:Int) (f:Fr):Prop where
  pos:0 < f.2
  lo:0≤f.1
  hi:f.1≤f.2
  dv:f.2 ∣ M
structure HF (M i:Int) (f:Fr):Prop where
  pos:0 < f.2
  lo:0≤f.1
  hi:f.1≤i*f.2
  dv:f.2 ∣ M
def bp(W:aS):List Int→Int
  | []=>1
  | k::r=>(W.tie k).bot*bp W r
def HX(W:aS):Int:=bp W W.rng
def ch(W:aS)(k:Int)(b:Bool):Fr:=if b then((W.tie k).top,(W.tie k).bot) else((W.tie k).bot - (W.tie k).top,(W.tie k).bot)
structure LG (W:aS) (S:Nat→Std) (n:Nat) (rs:List Fr):Prop where
  len:rs.length=n
  at':∀(j:Nat) (f:Fr),rs[j]?=some f→kW (bp W (S j).1) f
structure Lw (W:aS) (i:Nat) (ss:List Fr):Prop where
  len:ss.length=W.ties.length
  at':∀(j:Nat) (f:Fr),ss[j]?=some f→HF (HX W) (i:Int) f
def HB(sc:Pz)(x:Str):Bool:=match sc.names.lookup x with
  | some .local=>true
  | some .cell=>true
  | some .free=>true
  | _=>false
theorem Ef{sc:Pz}{x:Str}(h:HB sc x=true):HP sc x:=by
  unfold HB at h
  unfold HP
  split at h
  · rename_i e;exact .inl e
  · rename_i e;exact .inr (.inl e)
  · rename_i e;exact .inr (.inr e)
  · cases h
section
variable{X:Cx}{K:OU}
theorem qw(i:Nat){x:Str}{pos:Pos}(hN:X.N[i]?=some x)(hv:HB X.env.scope x=true)(hd:((x==("__debug__":Str)) || (x==("__classdict__":Str)))=false):PE X (.Name x pos) (fE K (ab i)):=qv i hN (Ef hv) (Bool.or_eq_false_iff.mp hd).1 (Bool.or_eq_false_iff.mp hd).2
end
section
variable{X:Cx}{tg a b c:OV}{ta:TA}{p pos p2 pos2:Pos}
end
section
variable{K:OU}{σ:L2.St}
end
section
variable{X:Cx}{K:OU}{tg a b c:OV}{fs:FA}{pos p p2 pos2:Pos}
end
section
variable(P:OZ)(w:OW)
end
section
variable{P:OZ}{w:OW}{H H':Hp}{h h':OY}{a:xM}{o:HO}
end
section
variable{P:OZ}{w:OW}{H:Hp}{h h':OY}{x e:xM}{o':HO}
end
section
variable{fs fs' ex ex':List xM}{H H1 H2:Hp}{h h1 h2 h':OY}{a x e:xM}{o:HO}
end
section
variable{X:Cx}{pins:List (xM × Obj)}{σ:List (Option V)}{H H':Hp}{s:OS}{h':OY}
end
section
variable{X:Cx}
variable{a b:OV}{ta tb:TE}{pos:Pos}
variable{tA tB':TT}{cA:List OV}
end
section
variable{X:Cx}{pins:List (xM × Obj)}{σ:St}{H:Hp}{s:OS}{a:xM}{xs ys:List V}
end
section
variable{X:Cx}{pins:List (xM × Obj)}{σ:St}{H:Hp}{s:OS}{E:OR→OS→Prop}
end
section
variable{X:Cx}{st:Pa}{cA:List Pa}{t u:TS}{e:OV}{te:TE}{pos:Pos}
end
section
variable{X:Cx}{pos:Pos}
end
section
variable{X:Cx}{pos:Pos}
end
section
variable{X:Cx}{tg:OV}
end
section
variable{X:Cx}{a b c:OV}{ta tb tc:TE}{pos:Pos}
end
section
variable{X:Cx}{a b c:OV}{ta tb tc:TE}{pos:Pos}
end
section
variable{prog:OZ}{w:OW}{A:Pb}{E:OR→OS→Prop}{s:OS}{K:OU}{x dx C f:xM}{mA:Str→Option OR}{name:Str}{v:OR}
end
section
variable{P:OZ}{w:OW}{H H':Hp}{h h':OY}{a C dx:xM}{fs fs':List (Str × V)}
end
section
variable{X:Cx}{pins:List (xM × Obj)}{σ:St}{H:Hp}{s:OS}{a C dx:xM}{fs:List (Str × V)}{f:Str}{v:V}{A:Pb}{E:OR→OS→Prop}
end
section
variable{X:Cx}{o e value:OV}{f:Str}{pos pos' tpos:Pos}{ta tv:TE}
end
section
variable{X:Cx}{pins:List (xM × Obj)}{σ:St}{H:Hp}{s:OS}{A:Pb}{E:OR→OS→Prop}{Q:OR→OS→Prop}{c:OR}{b:Bool}
end
section
variable{X:Cx}{e:OV}{es:List OV}{te:TE}{t:TA}{pos:Pos}
end
section
variable{X:Cx}{pins:List (xM × Obj)}{σ:St}{H:Hp}{s s':OS}
end
section
variable{X:Cx}{CX:uv}{k:Nat}{f C:xM}{fd:Pj}{ps:List Str}{sp:Sp}{dvs:List V}{ds:List OR}{E:XK}{x m:Str}{p pos apos:Pos}{e o:OV}{es:List OV}{ta:TE}{t:TA}
end
section
variable{X:Cx}{CX:uv}{k:Nat}{f C:xM}{fd:Pj}{ps ks:List Str}{sp:Sp}{E:XK}{x m:Str}{p pos apos kpos:Pos}{e o:OV}{es:List OV}{kws:List Qh}{te ta:TE}{t tk:TA}{nm:Option Str}
variable{g:List OR→List OR→List OR}{gV:List V→List V→List V}
end
section
variable{X:Cx}{x:Str}{p pos:Pos}{e:OV}{es:List OV}{t:TA}{id T:String}{r:List V→Hp→VK→Prop}
end
section
variable{κ:Type}[DecidableEq κ]
def Ja(kvs:List (κ × V))(k:κ)(v:V):List (κ × V):=
  if (kvs.any fun kv=>decide (kv.1=k))=true then kvs.map (fun kv=>if kv.1=k then(kv.1,v) else kv) else kvs++[(k,v)]
end
section
variable{P:OZ}{w:OW}{H:Hp}{h:OY}{a:xM}
end
section
variable{X:Cx}{pins:List (xM × Obj)}{σ:St}{H:Hp}{s:OS}{a:xM}{y v:V}{u r:OR}{o:Option V}{A:Pb}{E:OR→OS→Prop}
end
section
variable{X:Cx}{pins:List (xM × Obj)}{σ:St}{H:Hp}{s:OS}{a:xM}{kvs:List (jW × V)}{k:jW}{u:OR}{A:Pb}{E:OR→OS→Prop}
end
def Kg(i:OV):Prop:=∀ov iv,subscripted i false ov iv=operate [ov,iv] (getItem ov iv)
theorem DZ{prog:OZ}{w:OW}{A:Pb}{E:OR→OS→Prop}{s:OS}{env:Env}{value slice:OV}{pos:Pos}{T id:String}{Q:OR→OS→Prop}
    (hl:typeLookup (.type T) "__getitem__"=pure (some (.builtin id)))(hs:Kg slice)
    (h:Pc (Pe prog w) A (Pf value env) (fun o s₁=>Pc (Pe prog w) A (Pf slice env) (fun i s₂=>s₂.TypeIs o T∧Pc (Pe prog w) A (getItem o i) Q E s₂) E s₁) E s):
    Pc (Pe prog w) A (Pf (.Subscript value slice pos) env) Q E s:=by
  refine Subscript_ (Qv h (fun o s₁ h₁=>Qv h₁ (fun i s₂ h₂=>?_) fun _ _ x=>x) fun _ _ x=>x)
  obtain⟨hT,h₂⟩:=h₂
  unfold subscriptTail
  refine Ph ?_
  rw [getitemInPython_of_ne hT.not_modules]
  refine Ph (wpAny_specialOf hT hl ?_)
  have fin:Pc (Pe prog w) A (subscripted slice false o i) (fun r s₃=>Pc (Pe prog w) A (letTemporaryGo value o r >>= fun _=>pure r) Q E s₃) E s₂:=by
    rw [hs o i]
    exact wpAny_operating (Qv h₂ (fun r s₃ h₃=>Ph (wpAny_letTemporaryGo (Pl h₃))) fun _ _ x=>x)
  first
    | exact Pl (Ph fin)
    | exact Ph (Pl (Ph fin))
    | exact Ph fin
section
variable{X:Cx}{o i e value:OV}{pos pos' tpos:Pos}{td ty tv:TE}
end
section
variable{X:Cx}{pos:Pos}
end
section
variable{X:Cx}{pins:List (xM × Obj)}{σ:St}{H:Hp}{s:OS}{a:xM}{y d:V}{u r:OR}{o:Option V}{A:Pb}{E:OR→OS→Prop}
end
section
variable{X:Cx}{o e f:OV}{apos cpos:Pos}{td ty tx:TE}
end
section
variable{X:Cx}{pins:List (xM × Obj)}{σ:St}{H:Hp}{s:OS}{a:xM}{kvs:List (jW × V)}{A:Pb}{E:OR→OS→Prop}
end
section
variable{X:Cx}{pins:List (xM × Obj)}{σ:St}{H:Hp}{s:OS}{a:xM}{y:V}{u:OR}{A:Pb}{E:OR→OS→Prop}
end
end L2
namespace Att
open PySem PySem.W PySem.Calls PyProof.Rows
section
variable{prog:OZ}{w:OW}{A:Pb}{E:OR→OS→Prop}{s:OS}{K:Frag}
end
end Att
namespace L2
open PySem PySem.Spec PyProof.Rows
section
variable{P:OZ}{w:OW}{K:OU}{mg:Str→Option OR}{base:OY}
end
section
variable{X:Cx}
end
section
variable{κ:Type}[DecidableEq κ]
end
def JQ:OT→String
  | .none=>"NoneType"
  | .bool _=>"bool"
  | .int _=>"int"
  | .str _=>"str"
  | .tuple _=>"tuple"
  | .list _=>"list"
  | .dict _=>"dict"
def Hr(t T:String):Bool:=t==T || (t=="bool"&&T=="int")
def Iu(T:String)(d:OT):Bool:=Hr (JQ d) T
def yL(T:String):En→Rv→Option Rv:=fun _ r=>match r with
  | .d x=>some (.d (.bool (Iu T x)))
  | _=>some (.d (.bool (Iu T (.list []))))
section
variable{X:Cx}{K:OU}{a:OV}{fa:FE}{pos p p2:Pos}
def Kn(K:OU)(H:Hp):V→String→Prop
  | .non,t=>t="NoneType"
  | .bl _,t=>t="bool"
  | .int _,t=>t="int"
  | .str _,t=>t="str"
  | .ref a,t=>(t="tuple"∧∃xs,eV K H a xs)∨(t="list"∧∃xs,iN K H a xs)∨(t="dict"∧∃m,H a=some (.dK m))
  | _,_=>False
theorem zN{T:String}:dB X (.builtin "isinstance") (fun xs H Q=>∃x t b,xs=[x,.ty T]∧Kn X.K H x t∧PySem.W.kitOne X.K (.type t) (.type T)=some b∧Q (.bl b) H):=by
  intro pins s σ H xs us Q I r h
  obtain⟨x,t,b,rfl,ht,hk,q⟩:=h
  obtain⟨u1,u2,rfl,r1,r2⟩:∃u1 u2,us=[u1,u2]∧bL x u1∧bL (.ty T) u2:=by
    cases r with
    | cons p q=>cases q with
      | cons p' q'=>cases q';exact⟨_,_,rfl,p,p'⟩
  cases r2
  have q':∀tk,EP X pins σ Q (.bool b) {s with toks:=tk}:=fun tk=>⟨.bl b,H,I.tok _,rfl,q⟩
  cases x with
  | non=>cases (show u1=Value.none from r1);cases (show t=_ from ht);exact RJ PySem.W.kitx_none I.kIn RN hk (fun z=>nomatch z) q'
  | bl y=>cases (show u1=Value.bool y from r1);cases (show t=_ from ht);exact RJ PySem.W.kitx_bool I.kIn RN hk (fun z=>nomatch z) q'
  | int i=>obtain⟨tt,rfl⟩:=r1;cases (show t=_ from ht);exact RJ PySem.W.kitx_int I.kIn RN hk (fun z=>nomatch z) q'
  | str y=>obtain⟨tt,rfl⟩:=r1;cases (show t=_ from ht);exact RJ PySem.W.kitx_str I.kIn RN hk (fun z=>nomatch z) q'
  | ref a=>
    cases (show u1=Value.ref a from r1)
    rcases ht with ⟨rfl,xs,hs⟩ | ⟨rfl,xs,hs⟩ | ⟨rfl,m,hs⟩
    · obtain⟨its,rv,pl,hz⟩:=I.tuple hs
      obtain⟨o,h1,h2⟩:=pl.typeIs
      exact RJ PySem.W.kitx_tuple I.kIn ⟨o,h1,h2⟩ hk (fun z=>nomatch z) q'
    · obtain⟨its,rv,pl,hz⟩:=I.list hs
      obtain⟨o,h1,h2⟩:=pl.isList.typeIs
      exact RJ PySem.W.kitx_list I.kIn ⟨o,h1,h2⟩ hk (fun z=>nomatch z) q'
    · obtain⟨_,_,vs,_,pp⟩:=(show gy X.prog X.w H s.heap a (.dK m) from I.hok a _ hs)
      obtain⟨o,es,ep,h1,h2,_⟩:=pp
      exact RJ PySem.W.kitx_dict I.kIn ⟨o,h1,h2.1⟩ hk (fun z=>nomatch z) q'
  | _=>exact Qw ht
theorem AZ{x:Str}{T:String}(hg:Gl X x)(hm:X.mg x=none)(hv:QK x=some (.type T))(hn:x≠"__name__")(hd:(x==("__debug__":Str))=false):PE X (.Name x pos) (tC (.ty T)):=fun pins s σ H Q I h=>
  tP I hg hm hv ⟨.ty T,H,I,rfl,h⟩ hn hd
theorem F8{t T:String}(ht:t∈["NoneType","bool","int","str","tuple","list","dict"])(hT:T∈["int","bool","tuple","str"]):PySem.W.kitOne K (.type t) (.type T)=some (Hr t T):=by
  simp only [QI,RI,or_false] at ht hT
  rcases ht with rfl | rfl | rfl | rfl | rfl | rfl | rfl<;>rcases hT with rfl | rfl | rfl | rfl<;>rfl
theorem Ea(d:OT):JQ d∈["NoneType","bool","int","str","tuple","list","dict"]:=by cases d<;>simp [JQ]
theorem Hw{F H:Hp}{d:OT}{v:V}(h:DA K F d v)(s:aq F H):Kn K H v (JQ d):=by
  have h:=DA.mono s h
  cases d with
  | none=>rw [fB.mp h];rfl
  | bool b=>rw [dQ.mp h];rfl
  | int b=>rw [b6.mp h];rfl
  | str b=>rw [js.mp h];rfl
  | tuple ds=>obtain⟨a,xs,rfl,h1,_⟩:=cN.mp h;exact .inl ⟨rfl,xs,h1⟩
  | list ds=>obtain⟨a,xs,rfl,h1,_⟩:=et.mp h;exact .inr (.inl ⟨rfl,xs,h1⟩)
  | dict m=>simp only [DA] at h;obtain⟨a,m,rfl,h1,_⟩:=h;exact .inr (.inr ⟨rfl,_,h1⟩)
theorem CH{f:FE}{σ:L2.St}{H:Hp}{Q Q':VK}(h:fE K f σ H Q)(m:∀v H1,Q v H1→Q' v H1):fE K f σ H Q':=by
  obtain⟨F,e,r,e',R,hf,q⟩:=h
  exact⟨F,e,r,e',R,hf,fun F' H' v x R' A=>m _ _ (q F' H' v x R' A)⟩
theorem Iw{T:String}:HH K (fun v H Q=>∃t,t∈["NoneType","bool","int","str","tuple","list","dict"]∧Kn K H v t∧Q (.bl (Hr t T)) H) (yL T):=by
  intro σ H0 F H e x z v Q R A hg q
  unfold yL at hg
  cases x with
  | d d=>
    cases hg
    exact⟨JQ d,Ea d,Hw A R.sm,q F H _ (dP.refl _ _ _ _) R eP⟩
  | l xs=>
    cases hg
    obtain⟨l,vs,rfl,h1,h2,h3,h4⟩:=A
    exact⟨"list",by simp,.inr (.inl ⟨rfl,vs,iN.of h3⟩),q F H _ (dP.refl _ _ _ _) R eP⟩
  | s i=>
    cases hg
    obtain⟨h1,xs,h2⟩:=A
    obtain⟨l,vs,h3,h4,h5,h6⟩:=R.own i xs h2
    rw [h1] at h3;cases h3
    exact⟨"list",by simp,.inr (.inl ⟨rfl,vs,iN.of h5⟩),q F H _ (dP.refl _ _ _ _) R eP⟩
theorem EL{x:Str}{T:String}(hK:X.K=K)(hT:T∈["int","bool","tuple","str"])(hg:Gl X "isinstance")(hm:X.mg "isinstance"=none)(hgT:Gl X x)(hmT:X.mg x=none)(Lh:QK x=some (.type T))(hn:x≠"__name__")(hd:(x==("__debug__":Str))=false)
    (ha:PE X a (fE K fa))(he:Pd [a,.Name x p2] X.env=(false,Pf a X.env)::Pd [.Name x p2] X.env)(hpl:(Po pos (Pd [.Name x p2] X.env)).any (·.1)=false):
    PE X (.Call (.Name "isinstance" p) [a,.Name x p2] [] pos) (fE K (uo (yL T) fa)):=
  (qe (zN (T:=T)) hg hm boot_isinstance (mF ha (mF (AZ hgT hmT Lh hn hd) ig) he) (by decide) (by decide) he hpl).mono fun σ H Q h=>by
    subst hK
    have h1:=B9 (Iw (T:=T)) h
    refine CH h1 fun v H1 ⟨t,ht,k,q⟩=>?_
    exact⟨v,t,_,rfl,k,F8 ht hT,q⟩
end
section
variable{X:Cx}{K:OU}
end
section
variable{X:Cx}{K:OU}{σ:L2.St}{F H:Hp}{e:En}{pos p1 p2:Pos}
end
section
variable{X:Cx}{K:OU}{a b c d:OV}{ta tb tc td:TE}{fa fb fc fd:FE}{pos:Pos}
end
section
variable{X:Cx}{K:OU}{a b:OV}{es:List OV}{fa fb:FE}{fs:FA}{pos p apos:Pos}
def bP:Rv→Option Str
  | .d (.str x)=>some x
  | _=>none
theorem dO{σ:L2.St}{H0 F H:Hp}{e:En}{r:Rv}{v:V}{x:Str}(h:cD K σ H0 F H e r v)(q:bP r=some x):v=.str x:=by
  unfold bP at q
  split at q
  · cases q;exact js.mp (show DA K F (.str _) v from h)
  · cases q
theorem nH{σ:L2.St}{H0 F H:Hp}{e:En}{x:Str}:cD K σ H0 F H e (.d (.str x)) (.str x):=(show DA K F (.str x) (.str x) from js.mpr rfl)
def fV:En→Rv→Rv→Option Rv:=fun _ x y=>(bP x).bind fun i=>(bP y).bind fun j=>if i.length+j.length≤1000000 then some (.d (.str (i++j))) else none
def ES:R2:=fun x y H Q=>∃i j,x=.str i∧y=.str j∧i.length+j.length≤Pk∧Q (.str (i++j)) H
theorem Dl:iC X (PR .Add) ES:=by
  intro pins s σ H x y v u Q I rx ry h
  obtain⟨i,j,rfl,rfl,hl,q⟩:=h
  obtain⟨t,rfl⟩:=rx;obtain⟨t',rfl⟩:=ry
  exact PyProof.Rows.add_str (fun t' tk=>⟨.str (i++j),H,I.tok _,⟨_,rfl⟩,q⟩) hl
theorem Fh:iy K ES fV:=by
  intro σ H0 F H e x y z v u Q R A B hg q
  unfold fV at hg
  obtain⟨i,h1,hg⟩:=OK hg
  obtain⟨j,h2,hg⟩:=OK hg
  split at hg
  case isFalse=>cases hg
  case isTrue hl=>
  cases hg
  exact⟨i,j,dO A h1,dO B h2,by rw [Qg];lia,q F H _ (dP.refl _ _ _ _) R nH⟩
theorem nF(ha:PE X a (fE K fa))(hb:PE X b (fE K fb)):PE X (.BinOp a .Add b pos) (fE K (ay fV fa fb)):=qk Dl Fh ha hb
def eF:En→Rv→Option Rv:=fun _ x=>match x with
  | .d (.int i)=>if i.natAbs.log2 < 1900 then some (.d (.str (toString i:String))) else none
  | .d (.str x)=>some (.d (.str x))
  | _=>none
def BB:V→Hp→VK→Prop:=fun v H Q=>(∃i:Int,v=.int i∧i.natAbs.log2 < 1900∧Q (.str (toString i:String)) H)∨∃x,v=.str x∧Q (.str x) H
theorem yC:dB X (.type "str") (fun xs H Q=>∃v,xs=[v]∧BB v H Q):=by
  intro pins s σ H xs us Q I r h
  obtain⟨v,rfl,h⟩:=h
  obtain⟨u,rfl,ru⟩:=jH r
  rcases h with ⟨i,rfl,hi,q⟩ | ⟨x,rfl,q⟩
  · obtain⟨t,rfl⟩:=ru
    exact PySem.P.str_of_int (by lia) ⟨.str _,H,I.tok _,⟨_,rfl⟩,q⟩
  · obtain⟨t,rfl⟩:=ru
    exact PySem.P.str_of_str ⟨.str _,H,I,⟨_,rfl⟩,q⟩
theorem Ho:HH K BB eF:=by
  intro σ H0 F H e x z v Q R A hg q
  unfold eF at hg
  split at hg
  · split at hg
    case isFalse=>cases hg
    case isTrue hi=>
    cases hg
    exact .inl ⟨_,b6.mp (show DA K F (.int _) v from A),hi,q F H _ (dP.refl _ _ _ _) R nH⟩
  · cases hg
    exact .inr ⟨_,js.mp (show DA K F (.str _) v from A),q F H _ (dP.refl _ _ _ _) R nH⟩
  · cases hg
theorem Hn:dz K (fun xs H Q=>∃v,xs=[v]∧BB v H Q) (g1 eF):=fx fun σ H0 F H e x z v Q R A hg q=>⟨v,rfl,Ho σ H0 F H e x z v Q R A hg q⟩
theorem b_str:lh X K "str" (g1 eF):=⟨.inr ⟨_,_,yC,Hn,Ts⟩⟩
def vL:List OT→Option (List Str)
  | []=>some []
  | .str x::r=>(vL r).map (x::·)
  | _::_=>none
theorem vM:∀{ds:List OT} {ys:List Str},vL ds=some ys→ds=ys.map .str
  | [],_,h=>by cases h;rfl
  | .str x::r,ys,h=>by
    obtain⟨zs,h1,rfl⟩:=OL h
    rw [vM h1];rfl
  | .none::_,_,h=>by cases h
  | .bool _::_,_,h=>by cases h
  | .int _::_,_,h=>by cases h
  | .tuple _::_,_,h=>by cases h
  | .list _::_,_,h=>by cases h
  | .dict _::_,_,h=>by cases h
theorem uI{F:Hp}:∀{ys:List Str} {xs:List V},aP K F (ys.map .str) xs→xs=ys.map V.str
  | [],_,h=>by simpa [aP] using h
  | y::ys,_,h=>by
    simp only [Pw,aP,DA] at h
    obtain⟨x,r,e,rfl,q⟩:=h
    rw [e,uI q];rfl
def nZ:En→Rv→Rv→Option Rv:=fun e x y=>(bP x).bind fun sep=>(eU e y).bind fun p=>(vL p.2).bind fun ys=>if sep.length≤16∧(ys.map (·.length)).sum+ys.length≤1048576 then some (.d (.str (Txt.join sep ys))) else none
def ET(K:OU):V→List V→Hp→VK→Prop:=fun x vs H Q=>∃sep l ys,x=.str sep∧vs=[.ref l]∧(iN K H l (ys.map V.str)∨eV K H l (ys.map V.str))∧sep.length≤16∧(ys.map (·.length)).sum+ys.length≤1048576∧Q (.str (Txt.join sep ys)) H
theorem lH:∀{ys:List Str} {us:List OR},aV (ys.map V.str) us→StrsAre us ys
  | [],_,h=>by cases h;exact .nil
  | y::ys,_,h=>by
    cases h with
    | cons p q=>obtain⟨t,rfl⟩:=p;exact .cons _ _ (lH q)
theorem C8:Fe X "str.join" (ET X.K):=by
  intro pins s σ H x vs v us Q I rx rv h
  obtain⟨sep,l,ys,rfl,rfl,hs,h1,h2,q⟩:=h
  obtain⟨t,rfl⟩:=rx
  obtain⟨u,rfl,ru⟩:=jH rv
  cases ru
  have q':∀t' k,EP X pins σ Q (.str (Txt.join sep ys) t') {s with toks:=k}:=fun t' k=>⟨.str _,H,I.tok _,⟨_,rfl⟩,q⟩
  rcases hs with hs | hs
  · obtain⟨its,r,pl,hz⟩:=I.list hs
    exact join_listW pl.isList (lH r) h1 h2 q'
  · obtain⟨its,r,pl,hz⟩:=I.tuple hs
    exact join_tupleW pl (lH r) h1 h2 q'
theorem FN:iy K (fun v u H Q=>ET K v [u] H Q) nZ:=by
  intro σ H0 F H e x y z v u Q R A B hg q
  unfold nZ at hg
  obtain⟨sep,h1,hg⟩:=OK hg
  obtain⟨⟨k,ds⟩,h2,hg⟩:=OK hg
  obtain⟨ys,h3,hg⟩:=OK hg
  split at hg
  case isFalse=>cases hg
  case isTrue hl=>
  cases hg
  obtain⟨l,ws,rfl,d1,s1⟩:=dw R B h2
  have e1:=vM h3
  subst e1
  have e2:=uI d1
  subst e2
  refine⟨sep,l,ys,dO A h1,rfl,?_,hl.1,hl.2,q F H _ (dP.refl _ _ _ _) R nH⟩
  cases k with
  | true=>exact .inl s1
  | false=>exact .inr s1
theorem Bi{x:Str}{j:Nat}{p0:Pos}(hK:X.K=K)(ha:PE X a (fE K fa))(hs:Pd [a] X.env=(false,Pf a X.env)::Pd [] X.env)
    (hbase:Qr (.Constant (.str x) j p0) "join" X.env (Pf (.Constant (.str x) j p0) X.env)=Pf (.Constant (.str x) j p0) X.env)
    (hfew:((Po pos (Pd [a] X.env)).all (fun x=> !x.1)&&(QL pos (QM [] X.env)).all (fun x=>x.1.isSome)&&decide (([a]:List OV).length+([]:List Qh).length+(if ([]:List Qh).isEmpty then 0 else 1) < 30))=true)
    (hline:(apos.endLine==pos.line)=true)(hplain:(Po pos (Pd [] X.env)).any (·.1)=false):
    PE X (.Call (.Attribute (.Constant (.str x) j p0) "join" apos) [a] [] pos) (fE K (ay nZ (vC (.str x)) fa)):=
  (AV Tt PySem.F.slot_str_join PySem.F.type_str_join C8 (@w_ X x j p0) (mF ha ig hs) hbase hfew hline hs hplain).mono fun σ H Q h=>by
    subst hK
    have h1:=qO FN h
    obtain⟨F,e,r,e',R,hf,q⟩:=h1
    cases hf
    exact⟨rfl,q F H _ (dP.refl _ _ _ _) R nH⟩
theorem pZ(x y:Str):(x++y).length=x.length+y.length:=strLen_append x y
end
section
variable{X:Cx}{K:OU}{a b:OV}{fa fb:FE}{fs:FA}{pos p p2 p3:Pos}
end
def bq(W:aS)(as:List Int):Int:=bp W (W.rng.filter fun k=> !as.contains k)
def wI(l:Nat):Int:=1000*(2 ^ (16 - l) - 1)
theorem JR{l:Nat}:0≤wI l∧wI l≤65536000:=by
  unfold wI
  have h1:(2:Nat) ^ (16 - l)≤2 ^ 16:=SE (by decide) (by lia)
  have h2:1≤(2:Nat) ^ (16 - l):=Nat.one_le_two_pow
  have e:((2:Int) ^ (16 - l))=((2 ^ (16 - l):Nat):Int):=by simp
  rw [e]
  lia
structure Lp (W:aS) (k:Int) (as:List Int) (y n:Fr):Prop where
  y:HF (bq W (aS.askd as k)) (wI (as.length+1)) y
  n:HF (bq W (aS.askd as k)) (wI (as.length+1)) n
  len:as.length≤15
  inw:ix W k
  new:k∉as
def lk(ws:List Fr)(l:Int):Fr:=if l= -1 then(0,1) else ws.getD l.toNat (0,1)
structure Kq (W:aS) (S:Nat→Std) (n:Nat) (ws:List Fr):Prop where
  len:ws.length=n
  at':∀(j:Nat) (f:Fr),ws[j]?=some f→HF (bq W (S j).1) (wI (S j).1.length) f
theorem HC{M i:Int}(h:0≤i):HF M i (0,1):=⟨by decide,by decide,by show(0:Int)≤i*1;lia,Int.one_dvd _⟩
theorem As{W:aS}{S:Nat→Std}{n:Nat}{ws:List Fr}{i:Nat}{k:Int}{b:Bool}{l:Int}(h:Kq W S n ws)(hl:Fd W n S i k b l):HF (bq W (aS.askd (S i).1 k)) (wI ((S i).1.length+1)) (lk ws l):=by
  unfold lk
  rcases hl with hl | ⟨h1,h2,h3⟩
  · rw [if_pos hl];exact HC JR.1
  · rw [if_neg (by lia)]
    have hil:l.toNat < ws.length:=by rw [h.len];lia
    have e:ws[l.toNat]?=some (ws.getD l.toNat (0,1)):=by simp [hil]
    have:=h.at' _ _ e
    rw [h3] at this
    have e1:(nxt W (S i) k b).1.length=(S i).1.length+1:=pz
    rw [e1] at this
    exact this
theorem sJ{nT:Nat}{fi:FI}{g:FG}{ft:FT}{fe:FE}{e e1 eo:En}{items out:List OT}{own:jV}(h1:fi e=some (items,own,e1))(h3:iW g ft fe items (Pi nT none) []=some (out,eo)):cZ [] nT fi g ft fe e=some (.l out,e1):=by
  unfold cZ
  rw [h1]
  simp only [Pn]
  rw [if_pos (by simp),show ut [] nT e1=Pi nT none from rfl,h3]
  simp only [Pn]
  rw [if_pos (by simp [lq])]
  congr 2
  refine Rm fun i=>?_
  rw [bX]
  match h:e1[i]? with
  | none=>rfl
  | some none=>rfl
  | some (some (.d x))=>rfl
  | some (some (.n x))=>rfl
  | some (some (.l x))=>rfl
noncomputable def nS(n:Int):Str:=OX (toString n)
theorem C':∀n:Fin 1001,(OX (toString ((n.val:Nat):Int))).length≤4:=by decide+kernel
theorem Gy{n:Int}(h0:0≤n)(h1:n≤1000):(nS n).length≤4:=by
  have:=C' ⟨n.toNat,by lia⟩
  rw [show(((⟨n.toNat,by lia⟩:Fin 1001).val:Nat):Int)=n by simp;lia] at this
  exact this
theorem p5(n:Int):Pv (nS n)=true:=aB _
theorem Gm{n:Int}(h0:0≤n)(h1:n≤1000):n.natAbs.log2 < 1900:=by
  have:=Nat.log2_le_self n.natAbs
  lia
theorem Ac{e:En}{i:Int}(h0:0≤i)(h1:i≤1000):g1 eF e [.d (.int i)]=some (.d (.str (nS i))):=by
  simp only [g1,eF]
  rw [if_pos (Gm h0 h1)];rfl
theorem Ad{e:En}{x:Str}:g1 eF e [.d (.str x)]=some (.d (.str x)):=rfl
theorem oZ{e:En}{a b:Str}(h:a.length+b.length≤1000000):fV e (.d (.str a)) (.d (.str b))=some (.d (.str (a++b))):=by
  simp only [fV,bP,Pn];rw [if_pos h]
theorem Hk(a b:Str):(a++b).length=a.length+b.length:=strLen_append a b
theorem sum_le{ls:List Str}{k:Nat}(h:∀x∈ls,x.length≤k):(ls.map (·.length)).sum≤ls.length*k:=by
  induction ls with
  | nil=>simp
  | cons x r ih=>
    have h1:=h x (by simp)
    have h2:=ih fun y hy=>h y (by simp [hy])
    simp only [Pw,List.sum_cons,QD,Nat.succ_mul]
    lia
section
variable{X:Cx}{K:OU}{a:OV}{fa:FE}{pos p pos2 p2:Pos}
end
section
variable{X:Cx}{K:OU}{a:OV}{fa:FE}
end
abbrev Rn:=List (Int × Bool)
def CK(R:Rn):List Int:=R.map (·.1)
def Et(W:aS)(R:Rn):List Int:=(R.filter (·.2)).flatMap fun r=>[(W.tie r.1).one,(W.tie r.1).other]
structure LF (W:aS) (R:Rn) (asked taken:List Int):Prop where
  pa:asked.Perm (CK R)
  pt:taken.Perm (Et W R)
  inw:∀k∈CK R,ix W k
  nd:(CK R).Nodup
  nk:(Et W R).Nodup
  bd:∀t:Int,0≤t→t < W.things→W.many (CK R) t≤W.pat.getD t.toNat 0
  ak:(R.length:Int)≤W.asks
  sa:asked.Pairwise (· ≤·)
  st:taken.Pairwise (· ≤·)
section
variable{prog:OZ}{w:OW}{A:Pb}{R:Result→OS→Prop}
end
def Hs(l:xM)(wi:TI)(g:TG)(tc:TT)(te:TE)(σ:L2.St)(H:Hp)(N:L2.St→Hp→Prop):Prop:=
  wi σ H fun J H1=>∃W:Nat→Nat→L2.St→Hp→Prop,(∃m,W 0 m σ H1)∧∀i m σ' H',W i m σ' H'→
    (J.stop i H'∧N σ' H')∨(J.go i H'∧∃N2:L2.St→Hp→Prop,(∀σ2 H2,N2 σ2 H2→∃m',m' < m∧W (i+1) m' σ2 H2)∧
      ∀x H2,J.yld i H' x H2→g x σ' H2 fun σ2 H3=>tc σ2 H3 fun b H4=>if b=true then te σ2 H4 fun v H5=>∃ys,H5 l=some (.lst ys)∧ys.length < Pk∧N2 σ2 (bE H5 l (.lst (ys++[v]))) else N2 σ2 H4)
structure KR (cp:List (Nat × Str)) (nT:Nat) (wi:TI) (g:TG) (tc:TT) (wi2:TI) (g2:TG) (tc2:TT) (te:TE) (σ:L2.St) (H:Hp) (Q:VK):Prop where
  go:wi σ H fun J H1=>∀l,H1 l=none→
  ∃W:Nat→Nat→L2.St→Hp→Prop,(∃m,W 0 m (jM cp nT σ) (bE H1 l (.lst [])))∧∀i m σ' H',W i m σ' H'→
    (J.stop i H'∧Q (.ref l) H')∨(J.go i H'∧∃N:L2.St→Hp→Prop,(∀σ2 H2,N σ2 H2→∃m',m' < m∧W (i+1) m' σ2 H2)∧
      ∀x H2,J.yld i H' x H2→g x σ' H2 fun σ2 H3=>tc σ2 H3 fun b H4=>if b=true then Hs l wi2 g2 tc2 te σ2 H4 N else N σ2 H4)
section
variable{K:OU}{F H:Hp}{σ:L2.St}{e:En}{cp:List (Nat × Str)}{nT:Nat}
end
section
variable{X:Cx}{K:OU}{pos:Pos}
end
section
variable{X:Cx}{K:OU}{pos:Pos}
variable{o:OV}{fo:FE}{apos cpos:Pos}
end
section
variable{X:Cx}{K:OU}
def LQ:List Int→Int
  | []=>0
  | x::r=>r.foldl max x
end
structure Lz (f:Fr):Prop where
  pos:0 < f.2
  cop:Pq f.1 f.2=1
abbrev Pg:=List Int × Int
def LR(t:lK)(p:Pg):Bool:= !p.1.contains t.one&& !p.1.contains t.other
def Kt(t:lK)(p:Pg):Pg:=(p.1++[t.one,t.other],p.2+t.worth)
def LW(ps:List Pg)(t:lK):List Pg:=ps++(ps.filter (LR t)).map (Kt t)
def LS(ts:List lK):List Pg:=ts.foldl LW [([],0)]
structure Lb (k:Nat) (ps:List Pg):Prop where
  ne:ps≠[]
  len:ps.length≤2 ^ k
  pt:∀p∈ps,p.1.length≤2*k∧0≤p.2∧p.2≤1000*(k:Int)
def Lh(ts:List lK):Int:=LQ ((LS ts).map (·.2))
section
variable{prog:OZ}{w:OW}{A:Pb}{E:OR→OS→Prop}{s:OS}
end
section
variable{X:Cx}{a:OV}{ta:TA}{p p2 pos pos2:Pos}
variable{K:OU}{fs:FA}{p3:Pos}
end
def Ir(lo hi:Int):OT→Bool
  | .int i=>decide (lo≤i)&&decide (i≤hi)
  | _=>false
def uniq(many:Int):List Int→List OT→Bool
  | _,[]=>true
  | pre,.int i::r=>Ir 0 (many - 1) (.int i)&&(!pre.contains i&&uniq many (pre++[i]) r)
  | _,_::_=>false
mutual
def wt:OT→Nat
  | .list xs=>B_ xs+1
  | .tuple xs=>B_ xs+1
  | .dict _=>1
  | .none=>1
  | .bool _=>1
  | .int _=>1
  | .str _=>1
def B_:List OT→Nat
  | []=>0
  | x::r=>wt x+B_ r
end
structure L0 (d:OT) (k:Nat):Prop where
  lay:d.canLay0=true
  sh:d.showable=true
  dp:d.depth≤k
  ln:d.shown.length+2≤104*wt d
  so:Pv d.shown=true
theorem z5{e:En}{xs:List OT}{neg:Bool}(hs:PH (.tuple xs)=true):bi neg e (.d (.tuple xs)) (.d (.tuple []))=some (.d (.bool (if neg then !xs.isEmpty else xs.isEmpty))):=by
  unfold bi
  simp only [hU,Pn,hs]
  have h0:PH (.tuple [])=true:=by simp [PH,PM,Qp,Qj,QR]
  rw [h0]
  cases xs<;>simp [Qt,PyData.eqvAll]
section
variable{X:Cx}{K:OU}
variable{a b:OV}{fa fb:FE}{pos:Pos}
end
def tx(s:Str):List Nat:=s.cps.toList
section
variable{X:Cx}{K:OU}{es:List OV}{k0:Nat}{tp:Pos}{a b:OV}{fs:FA}{p pos:Pos}
end
def LO(x:Nd)(b:Bool):Int:=if b=true then x.yes else x.no
def EF(T:List Nd)(i:Nat)(b:Bool):Int:=match T[i]? with
  | some x=>LO x b
  | none=> -1
def Ko(T:List Nd):Prop:=∀(i j:Nat) (a b:Bool),EF T i a=EF T j b→EF T i a≠ -1→i=j∧a=b
def K6(w:Wt):Int × Int:=(w.par,w.side)
structure L6 (T:List Nd) (ws:List Wt):Prop where
  unq:Ko T
  rng:∀i a,EF T i a= -1∨(0 < EF T i a∧EF T i a < (T.length:Int))
  free:∀w∈ws,w.par= -1∨(0≤w.par∧w.par < (T.length:Int)∧EF T w.par.toNat (w.side==0)= -1)
  dst:(ws.map K6).Nodup
  side:∀w∈ws,w.side=0∨w.side=1
structure Ma (T:List Nd) (w0 ws order:List Int):Prop where
  nd:(order++ws).Nodup
  par:∀v∈order++ws,v=0∨∃u∈order,∃b,EF T u.toNat b=v∧v≠ -1
  fst:(order=[]∧ws=w0)∨order[0]?=some 0
section
variable{prog:OZ}{w:OW}{A:Pb}{E:OR→OS→Prop}{s:OS}
end
section
variable{X:Cx}{tg a:OV}{ta:TA}{p pos:Pos}
end
section
variable{X:Cx}{K:OU}{σ:L2.St}{tg a:OV}{fs:FA}{p pos:Pos}
end
section
variable{X:Cx}{a k:OV}{p2 pos:Pos}{fa fk:FE}{K:OU}
section
variable{prog:OZ}{w:OW}{A:Pb}{E:OR→OS→Prop}{s:OS}
end
end
section
variable{X:Cx}{a b:OV}{ta:TA}{p p2 pos pos2:Pos}{K:OU}{fs:FA}
end
section
variable{X:Cx}{o i e:OV}{fo fi:FE}{tpos pos:Pos}{K:OU}
end
section
variable{X:Cx}{o i e:OV}{fo fi fv:FE}{tpos pos:Pos}{K:OU}
end
section
variable{X:Cx}{K:OU}
end
section
open PySem.MeetsSeq2 PySem.AutoSeq1 PySem.SeqAt
end
section
variable{X:Cx}{K:OU}{o a:OV}{to te:TE}{name:Str}{apos cpos:Pos}{T id:String}{r:V→List V→Hp→VK→Prop}{fo fa:FE}
end
section
variable{X:Cx}{K:OU}{o a:OV}{apos cpos:Pos}{fo fa:FE}
end
section
variable{K:OU}{F H:Hp}{σ:L2.St}{e:En}{cp:List (Nat × Str)}{nT:Nat}
end
section
variable{X:Cx}{K:OU}{a b:OV}{es:List OV}{fa fb:FE}{fs:FA}{pos p p2 p3:Pos}{lo hi:Option OV}
end
section
variable{X:Cx}{K:OU}
end
section
variable{X:Cx}{K:OU}{a b:OV}{fa fb:FE}{pos:Pos}
end
section
variable{X:Cx}{K:OU}
end
structure Sw (b:Bool) (n dep:Nat) (d:OT):Prop where
  dl:bif b then AI d=true else d.hasDict=false
  sh:d.showable=true
  dp:d.depth≤dep
  ln:d.shown.length+2≤n
  so:Pv d.shown=true
structure S1 (n:Nat) (f:Fr):Prop where
  low:Lz f
  lo:0≤f.1
  hi:f.1≤f.2
  bt:Bt n f.2
def LM(e:Int)(t:lK):Bool:=t.one==e || t.other==e
structure Mb (b f g:Fr):Prop where
  pf:0 < f.2
  pg:0 < g.2
  eq:g.1*(f.2*b.1)=g.2*(f.1*b.2)
structure L_ (O:aS) (ss ws:List Std):Prop where
  len:ss.length=ws.length
  at':∀j,(ss.getD j ([],[])).1=(ws.getD j ([],[])).1∧(ss.getD j ([],[])).2.length≤2*(ss.getD j ([],[])).1.length∧∀k∈(ss.getD j ([],[])).1,ix O k
structure L4 (O:aS) (T:List Nd):Prop where
  tie:∀(i:Nat) (x:Nd),T[i]?=some x→ix O x.tie
  lk:∀(i:Nat) (x:Nd),T[i]?=some x→(-1≤x.yes∧x.yes < (T.length:Int))∧(-1≤x.no∧x.no < (T.length:Int))
section
variable{K:OU}
variable{X:Cx}{σ:L2.St}{H0 H:Hp}{e:En}
end
section
variable{X:Cx}{a b:OV}{ta:TA}{p p2 pos pos2:Pos}
end
section
variable{X:Cx}{K:OU}{fs:FA}{a b:OV}{p p2 pos pos2:Pos}
end
theorem bJ:∀(names:List (Str × Qi)) (n:Nat) (acc:List (Str × xM)),PD n names acc=PD n names []++acc
  | [],_,_=>rfl
  | (x,k)::r,n,acc=>by
    unfold PD
    split
    · rw [bJ r (n+1) ((x,n)::acc),bJ r (n+1) [(x,n)],List.append_assoc];rfl
    · exact bJ r n acc
theorem jq:∀(names:List (Str × Qi)) (n:Nat) (x:Str) (c:xM),(PD n names []).lookup x=some c→∃y∈names,y.1=x∧y.2=.cell
  | [],_,_,_,h=>by simp [PD] at h
  | (z,k)::r,n,x,c,h=>by
    unfold PD at h
    split at h
    · rename_i hk
      rw [bJ,Si] at h
      cases q:(PD (n+1) r []).lookup x with
      | some d=>
        obtain⟨y,hy,e⟩:=jq r _ x d q
        exact⟨y,PP _ hy,e⟩
      | none=>
        rw [q] at h
        have h':PU x [(z,n)]=some c:=h
        rw [PX] at h'
        cases hx:x==z with
        | true=>exact⟨(z,k),QT,(by simpa using hx:x=z).symm,by simpa using hk⟩
        | false=>rw [hx] at h';simp at h'
    · obtain⟨y,hy,e⟩:=jq r n x c h
      exact⟨y,PP _ hy,e⟩
theorem iK:∀(names:List (Str × Qi)) (n:Nat) (x:Str),(∃y∈names,y.1=x∧y.2=.cell)→∃c,(PD n names []).lookup x=some c
  | [],_,_,⟨_,h,_⟩=>by cases h
  | (z,k)::r,n,x,⟨y,hy,e1,e2⟩=>by
    unfold PD
    split
    · rename_i hk
      rw [bJ,Si]
      cases q:(PD (n+1) r []).lookup x with
      | some d=>exact⟨d,rfl⟩
      | none=>
        rcases OP hy with w | w
        · subst w;subst e1;exact⟨n,by simp [PX]⟩
        · obtain⟨c,hc⟩:=iK r (n+1) x ⟨y,w,e1,e2⟩
          rw [q] at hc;cases hc
    · rename_i hk
      rcases OP hy with w | w
      · subst w;exact absurd (by simpa using e2) hk
      · exact iK r n x ⟨y,w,e1,e2⟩
theorem rF{env:Env}:∀(names:List (Str × Qi)) (cs:List (Str × xM)) (x:Str),(¬∃y∈names,y.1=x∧y.2=.free)→cs.lookup x=none→(jr env names cs).lookup x=none
  | [],_,_,_,h=>h
  | (n,k)::r,cs,x,hn,hcs=>by
    refine rF r _ x (fun⟨y,hy,z⟩=>hn ⟨y,PP _ hy,z⟩) ?_
    by_cases hk:(k==Qs)=true
    · rw [if_pos hk,PX]
      cases hx:x==n with
      | true=>exact absurd ⟨(n,k),QT,(by simpa using hx:x=n).symm,by simpa using hk⟩ hn
      | false=>exact hcs
    · rw [if_neg hk];exact hcs
theorem qp{env:Env}:∀{names:List (Str × Qi)} {x:Str},(names.map fun(n,k)=>if (k==Qs&&env.scope.kind==.function&&env.kindOf n==some .cell) then(n,RF) else(n,k)).lookup x=some .cell∨
    (names.map fun(n,k)=>if (k==Qs&&env.scope.kind==.function&&env.kindOf n==some .cell) then(n,RF) else(n,k)).lookup x=some .free→∃y∈names,y.1=x∧(y.2=.free∨y.2=.cell)
  | [],x,h=>by simp at h
  | (n,k)::r,x,h=>by
    have ih:=@qp env r x
    rw [Pw] at h
    cases hx:x==n with
    | true=>
      have e1:x=n:=by simpa using hx
      subst e1
      refine⟨(x,k),QT,rfl,?_⟩
      by_cases q:(k==Qs&&env.scope.kind==.function&&env.kindOf x==some .cell)=true
      · simp only [PV,beq_iff_eq] at q;exact .inl q.1.1
      · simp only [q,Ti,if_false,PX,beq_self_eq_true,Rr] at h
        exact h.symm
    | false=>
      have e2:∀(l:List (Str × Qi)),((if (k==Qs&&env.scope.kind==.function&&env.kindOf n==some .cell)=true then(n,RF) else(n,k))::l).lookup x=l.lookup x:=fun l=>by
        split<;>simp [PX,hx]
      simp only [e2] at h
      obtain⟨y,hy,z⟩:=ih h
      exact⟨y,PP _ hy,z⟩
theorem Da{M:Model}{A:Pb}{E:OR→OS→Prop}{s:OS}{scope:Pz}{globals:xM}{closure:List (Str × xM)}{qual:Str}{func:Option xM}{code:OR}{env:Env}{builtins:xM}{Q:Env→OS→Prop}
    (hQ:∀h',h'.Ns s.heap.objs.size (fun _=>none)→(∀b o,s.heap.get? b=some o→h'.get? b=some o)→
      (∀n c,(PD (s.heap.objs.size+1) scope.names []).lookup n=some c→h'.IsCell c none∧s.heap.objs.size+1≤c)→((PD (s.heap.objs.size+1) scope.names []).Pairwise fun x y=>x.2≠y.2)→
      Q (newEnv scope s.heap.objs.size globals (PD (s.heap.objs.size+1) scope.names closure) qual func code (some env) builtins) {s with heap:=h'}):
    Pc M A (newFunctionEnv scope globals closure [] qual func code (some env) builtins) Q E s:=by
  simp only [newFunctionEnv,Option.isSome_some,if_true]
  refine Ph (wpAny_alloc ?_)
  refine Ph (wpAny_layCells _ (fun name kind cells=>by cases hkc:kind==RF<;>simp [hkc]) _ _ _ _ ?_)
  have ok:=cellsFrom_ok scope.names (s.heap.push {cls:=.type "dict",data:=.dict #[]}) (s.heap.objs.size+1) [] ⟨fun _ _ hm=>(nomatch hm),List.Pairwise.nil⟩ (by rw [RX];exact Pp _)
  rw [RX] at ok
  rw [show({s with heap:=s.heap.push {cls:=.type "dict",data:=.dict #[]}}:OS).heap.objs.size=s.heap.objs.size+1 from RX ..]
  refine Ph ?_
  rw [List.forIn_nil]
  refine Pl (Pl ?_)
  exact hQ _ ((Heap.Ns.new s.heap (.type "dict")).keeps (pushCells_keeps _ _)) (fun b o e=>pushCells_keeps _ _ b o (PL _ e)) (fun n c e=>ok.empty n c (mem_of_lookup e)) ok.apart
def bo(X:Cx)(scope:Pz)(cp:List (Nat × Str))(tgN:List Str)(C:xM)(s0:OS)(H0:Hp)(fp:List xM):Cx where
  prog:=X.prog
  w:=X.w
  K:=X.K
  mg:=X.mg
  base:=X.base
  A:=X.A
  N:=cp.map (·.2)++tgN
  s₀:=s0
  H₀:=H0
  env:=compEnvC scope (PD (C+1) scope.names (jr X.env scope.names [])) C X.env
  outer:=X.stack
  stack:=X.stack
  ex:=fp
  fn:=fun x=>scope.names.lookup x==some .local || scope.names.lookup x==some .cell
  calm:=X.calm
  pn:=[]
  xe:=fun _ _=>False
theorem yD{X:Cx}{scope:Pz}{sc0:Pz}{N0:List Str}{cp:List (Nat × Str)}{tgN:List Str}{pins:List (xM × Obj)}{σ:L2.St}{H3:Hp}{s₃:OS}{C:xM}{h₁:OY}{fp:List xM}(hsc:X.env.scope=sc0)(hN0:X.N=N0)
    (hk:scope.kind=.function)(hown:∀y∈scope.names,y.2=.cell→scope.names.lookup y.1=some .cell)
    (hfr:∀y∈scope.names,y.2=.free→scope.names.lookup y.1=some .free∧sc0.names.lookup y.1=some .cell)
    (hcp:∀p∈cp,N0[p.1]?=some p.2)(hcq:∀p∈cp,sc0.names.lookup p.2=some .cell∧scope.names.lookup p.2=some .free)
    (I3:aM X pins σ H3 s₃)(f3:∀b∈fp,pk X pins H3 b)(hob:∀b∈fp,∃o,s₃.heap.get? b=some o)(hC:s₃.heap.objs.size=C)(hns₁:h₁.Ns C (fun _=>none))(old:∀b o,s₃.heap.get? b=some o→h₁.get? b=some o)
    (hownC:∀n c,(PD (C+1) scope.names []).lookup n=some c→h₁.IsCell c none∧C+1≤c)(apC:(PD (C+1) scope.names []).Pairwise fun x y=>x.2≠y.2):
    (bo X scope cp tgN C s₃ H3 fp).Ok∧aM (bo X scope cp tgN C s₃ H3 fp) [] (jM cp tgN.length σ) H3 {s₃ with heap:=h₁}:=by
  have hkind:∀x,X.env.kindOf x=sc0.names.lookup x:=fun x=>by unfold Env.kindOf;rw [hsc]
  have hfree:∀y∈scope.names,y.2=.free→∃c,X.env.cells.lookup y.1=some c:=fun y hy e=>I3.ok.has y.1 (.inl (by rw [hkind];exact(hfr y hy e).2))
  have nC:∀b o,s₃.heap.get? b=some o→b≠C:=fun b o e=>by rw [←hC];exact Qn (Pr e)
  have hHC:H3 C=none:=I3.hok.fresh (by rw [hC];exact Pp _)
  have clS:∀x c,(jr X.env scope.names []).lookup x=some c→X.env.cells.lookup x=some c:=fun x c e=>pG _ _ x c hfree (fun _ _ z=>by simp at z) e
  have clH:∀x,(∃y∈scope.names,y.1=x∧y.2=.free)→∃c,(jr X.env scope.names []).lookup x=some c:=fun x e=>uG _ _ x (.inl e)
  have clN:∀x,(¬∃y∈scope.names,y.1=x∧y.2=.free)→(jr X.env scope.names []).lookup x=none:=fun x q=>rF _ _ x q rfl
  have Ck:∀x c,(PD (C+1) scope.names (jr X.env scope.names [])).lookup x=some c→(PD (C+1) scope.names []).lookup x=some c∨(jr X.env scope.names []).lookup x=some c:=fun x c e=>by
    rw [bJ,Si] at e
    cases q:(PD (C+1) scope.names []).lookup x with
    | some d=>rw [q] at e;exact .inl e
    | none=>rw [q] at e;exact .inr e
  have ltC:∀x c,(jr X.env scope.names []).lookup x=some c→c < C:=fun x c e=>by
    obtain⟨v,o,ho,_⟩:=I3.cell x c (clS x c e)
    rw [←hC];exact Pr ho
  have clF:∀x,(∃y∈scope.names,y.1=x∧y.2=.free)→(PD (C+1) scope.names (jr X.env scope.names [])).lookup x=(jr X.env scope.names []).lookup x:=fun x ⟨y,hy,e1,e2⟩=>by
    rw [bJ,Si]
    cases q:(PD (C+1) scope.names []).lookup x with
    | none=>rfl
    | some d=>
      exfalso
      obtain⟨z,hz,z1,z2⟩:=jq scope.names _ x d q
      have a1:=hown z hz z2
      have a2:=(hfr y hy e2).1
      rw [z1] at a1;rw [e1,a1] at a2;cases a2
  have hasC:∀x,(∃y∈scope.names,y.1=x∧(y.2=.free∨y.2=.cell))→∃c,(PD (C+1) scope.names (jr X.env scope.names [])).lookup x=some c:=fun x ⟨y,hy,e1,e2⟩=>by
    rcases e2 with e2 | e2
    · rw [clF x ⟨y,hy,e1,e2⟩];exact clH x ⟨y,hy,e1,e2⟩
    · rw [bJ,Si]
      obtain⟨c,hc⟩:=iK scope.names (C+1) x ⟨y,hy,e1,e2⟩
      exact⟨c,by rw [hc];rfl⟩
  have ok':(bo X scope cp tgN C s₃ H3 fp).Ok:=by
    refine⟨I3.ok.mod,hk,I3.ok.glob,I3.ok.blt,by rw [←hC];exact Pp _,fun x y c e1 e2=>?_,fun x e=>hasC x (qp e),fun x c e1 e2=>?_,I3.ok.hd,I3.ok.frames,.inl rfl,fun b hb=>?_,fun b o e=>I3.bs b o e,?_,fun b o e hb=>?_,fun b hb z=>?_,I3.stack,fun b hb=>I3.stkFree b hb⟩
    · rcases Ck x c e1 with e1 | e1<;>rcases Ck y c e2 with e2 | e2
      · exact name_of_addr apC (mem_of_lookup e1) (mem_of_lookup e2)
      · exact(Re _ (Nat.lt_trans (ltC y c e2) (hownC x c e1).2)).elim
      · exact(Re _ (Nat.lt_trans (ltC x c e1) (hownC y c e2).2)).elim
      · exact I3.ok.inj x y c (clS _ _ e1) (clS _ _ e2)
    · rcases Ck x c e2 with e2 | e2
      · show s₃.heap.objs.size≤c
        rw [hC];exact Nat.le_of_succ_le (hownC x c e2).2
      · exfalso
        have e1':scope.names.lookup x=some .local∨scope.names.lookup x=some .cell:=by simpa [bo] using e1
        by_cases q:∃y∈scope.names,y.1=x∧y.2=.free
        · obtain⟨y,hy,y1,y2⟩:=q
          have z:=(hfr y hy y2).1
          rw [y1] at z
          rcases e1' with w | w<;>(rw [z] at w;cases w)
        · rw [clN x q] at e2;cases e2
    · obtain⟨f0,f1,f4,f5,f6,f7⟩:=f3 b hb
      obtain⟨o,ho⟩:=hob b hb
      exact⟨nC b o ho,fun x c e=>(Ck x c e).elim (fun e z=>absurd (hownC x c e).2 (by rw [z,←hC];exact Nat.not_le.mpr (Nat.lt_succ_of_lt (Pr ho)))) (fun e=>f6 x c (clS x c e))⟩
    · exact PK I3.ok.bsz I3.sz
    · obtain⟨f0,f1,f4,f5,f6,f7⟩:=f3 b hb
      rcases f5 with z | z
      · exact I3.ok.noex b o e z
      · have:=(I3.ok.bs b o e).1
        exact absurd (Qa (Pr this) z) (Re _)
    · obtain⟨f0,f1,f4,f5,f6,f7⟩:=f3 b hb
      rcases OP (I3.stkSub b z) with z | z
      · exact f1 z
      · exact f4 z
  have I4:aM (bo X scope cp tgN C s₃ H3 fp) [] (jM cp tgN.length σ) H3 {s₃ with heap:=h₁}:=by
    refine⟨ok',rfl,I3.bare,Un.kept old,⟨_,hns₁,fun i x v e1 e2 e3=>?_⟩,fun x c e=>?_,hHC,fun x c e=>(Ck x c e).elim (fun e=>I3.hok.fresh (by rw [hC];exact Nat.le_of_succ_le (hownC x c e).2)) (fun e=>I3.freeC x c (clS x c e)),fun p hp=>by simp [bo] at hp,I3.hok.kept old,by simp [jM,bo]⟩
    · have hlt:i < cp.length:=by
        by_cases q:i < cp.length
        · exact q
        · exfalso
          unfold jM at e2
          rw [List.getElem?_append_right (by simp;lia)] at e2
          rw [Td] at e2
          split at e2<;>cases e2
      have e1':(cp.map (·.2))[i]?=some x:=by
        have e1'':(cp.map (·.2)++tgN)[i]?=some x:=e1
        rwa [QQ (by simp;exact hlt)] at e1''
      have e2':(cp.map (fun p=>(σ[p.1]?).join))[i]?=some (some v):=by
        unfold jM at e2
        rwa [QQ (by simp;exact hlt)] at e2
      rw [PF,QA hlt] at e1' e2'
      have ex:(cp[i]).2=x:=by simpa using e1'
      have ev:(σ[(cp[i]).1]?).join=some v:=by simpa using e2'
      have ev':σ[(cp[i]).1]?=some (some v):=by
        cases q:σ[(cp[i]).1]? with
        | none=>rw [q] at ev;cases ev
        | some z=>rw [q] at ev;simp only [Option.join_some] at ev;rw [ev]
      have hN:=hcp cp[i] (SL hlt)
      rw [←hN0] at hN
      obtain⟨hcl,hcf⟩:=hcq cp[i] (SL hlt)
      rw [ex] at hN hcl hcf
      obtain⟨m,hn,hl⟩:=I3.loc
      obtain⟨u,r,l⟩:=hl _ x v hN ev' (.inr (.inl (by rw [hsc];exact hcl)))
      refine⟨u,r,.inr ?_⟩
      rcases l with ⟨k1,_⟩ | ⟨k1,c,hcc,o,ho,hd⟩
      · rw [hkind,hcl] at k1;cases k1
      · have e3':(relabel scope X.env).names.lookup x=some .local∨(relabel scope X.env).names.lookup x=some .cell∨(relabel scope X.env).names.lookup x=some .free:=e3
        have nl:(relabel scope X.env).names.lookup x=some .cell∨(relabel scope X.env).names.lookup x=some .free:=by
          rcases e3' with z | z | z
          · exact absurd z (jR hcf)
          · exact .inl z
          · exact .inr z
        have fr:∃y∈scope.names,y.1=x∧y.2=.free:=⟨(x,.free),mem_of_lookup hcf,rfl,rfl⟩
        obtain⟨c',hc'⟩:=clH x fr
        have:=clS x c' hc'
        rw [hcc] at this;cases this
        exact⟨nl,c,(clF x fr).trans hc',o,old c o ho,hd⟩
    · rcases Ck x c e with e | e
      · exact⟨none,(hownC x c e).1⟩
      · obtain⟨v,o,ho,hd⟩:=I3.cell x c (clS x c e)
        exact⟨v,o,old c o ho,hd⟩
  exact⟨ok',I4⟩
theorem yE{X:Cx}{scope:Pz}{cp:List (Nat × Str)}{tgN:List Str}{pins:List (xM × Obj)}{σ σ5:L2.St}{H3 H5:Hp}{s₃ s6:OS}{C:xM}{fp:List xM}(I3:aM X pins σ H3 s₃)(f3:∀b∈fp,pk X pins H3 b)(nC:∀b o,s₃.heap.get? b=some o→b≠C)
    (I6:aM (bo X scope cp tgN C s₃ H3 fp) [] σ5 H5 s6)(h':OY)(sb:RL C s6.heap h'):aM X pins σ H5 {s6 with heap:=h'}:=by
  have ub:=I6.base
  have kp:∀b u,b≠C→s6.heap.get? b=some u→h'.get? b=some u:=fun b u ne e=>sb.extBut b u ne e
  have nit:∀b u,H5 b=some u→b≠C:=fun b u e z=>by
    have:=I6.free
    rw [z] at e
    rw [show H5 C=none from this] at e;cases e
  refine I3.call' (s':={s6 with heap:=h'}) (ch:=fp) I6.os ⟨fun b o e n hb hx=>kp b o (nC b o e) (ub.keep b o e n hb hx),fun b o e n hb hx=>?_,ub.free,fun b o e hx=>?_,ub.tups,ub.frzs,ub.tbls⟩ (fun b u e=>?_) I6.bare (fun b hb=>?_)
  · obtain⟨sl,q⟩:=ub.slot b o e n hb hx
    exact⟨sl,kp b _ (nC b o e) q⟩
  · obtain⟨o',q⟩:=ub.there b o e hx
    exact⟨o',kp b _ (nC b o e) q⟩
  · refine(I6.hok b u e).stay (fun c v hc q=>kp c v ?_ q) (fun _ q=>q) fun _ _ q=>q
    rcases hc with z | z
    · rw [z];exact nit b u e
    · exact nit c _ z
  · obtain⟨f0,f1,f4,f5,f6,f7⟩:=f3 b hb
    exact⟨f5,f1,f6,f7⟩
theorem zS{X:Cx}{use:Option (OR→Sem Unit)}{RR:OR→OS→Prop}{pins:List (xM × Obj)}{s:OS}{σ:L2.St}{H:Hp}{Q:VK}{elt iter tg:OV}{ifs:List OV}{scope:Pz}{pos:Pos}{wi:TI}{g:TG}{tc:TT}{te:TE}(sc0:Pz)(N0:List Str)(cp:List (Nat × Str))(tgN:List Str)
    (hc:X.calm=true)(hsc:X.env.scope=sc0)(hN0:X.N=N0)(hi:PI X tg iter wi)
    (hg:∀C s0 H0 fp,PG (bo X scope cp tgN C s0 H0 fp) tg g)
    (ht:∀C s0 H0 fp,Ca (bo X scope cp tgN C s0 H0 fp) ifs tc)
    (he:∀C s0 H0 fp,PE (bo X scope cp tgN C s0 H0 fp) elt te)
    (hk:scope.kind=.function)(hown:∀y∈scope.names,y.2=.cell→scope.names.lookup y.1=some .cell)(hnames:∀y∈scope.names,y.2=.local→scope.names.lookup y.1=some .local)
    (hfr:∀y∈scope.names,y.2=.free→scope.names.lookup y.1=some .free∧sc0.names.lookup y.1=some .cell)
    (hcp:∀p∈cp,N0[p.1]?=some p.2)(hcq:∀p∈cp,sc0.names.lookup p.2=some .cell∧scope.names.lookup p.2=some .free)
    (hs:∀x,RM iter X.env x=pure x)(I:aM X pins σ H s)(h:BX cp tgN.length wi g tc te σ H Q)
    (fin:∀(C D:xM) (H5:Hp) (s6:OS),(∃m,s6.heap.Ns C m)→Q (.ref D) H5→pk X pins H5 C→(∀h',RL C s6.heap h'→aM X pins σ H5 {s6 with heap:=h'})→compPost (Pe X.prog X.w) X.A X.xe use RR (.ref D) C (.ok .next) s6):
    Pc (Pe X.prog X.w) X.A (comprehension (.ListComp elt [⟨tg,iter,ifs,0⟩] scope pos) scope X.env (firstIterPos [⟨tg,iter,ifs,0⟩] pos) (newList []) (firstAsync [⟨tg,iter,ifs,0⟩]) (firstIter [⟨tg,iter,ifs,0⟩] X.env) use) RR X.xe s:=by
  have hkind:∀x,X.env.kindOf x=sc0.names.lookup x:=fun x=>by unfold Env.kindOf;rw [hsc]
  have hfree:∀y∈scope.names,y.2=.free→∃c,X.env.cells.lookup y.1=some c:=fun y hy e=>I.ok.has y.1 (.inl (by rw [hkind];exact(hfr y hy e).2))
  refine wpAny_comprehension_free (use:=use) rfl hs (wu hfree) hk hnames (Qv (hi pins s σ H _ I h.go) (fun xv s₁ h₁=>Qv h₁ (fun itv s₂ h₂=>?_) fun _ _ e=>e) fun _ _ e=>e)
  obtain⟨it,fp,tn,J,H2,rfl,I2,T,st2,f2,hq⟩:=h₂
  refine Rx ?_
  have hlF:H2 s₂.heap.objs.size=none:=I2.hok.fresh (Pp _)
  have I3:aM X pins σ (bE H2 s₂.heap.objs.size (.lst [])) {s₂ with heap:=s₂.heap.push {cls:=.type "list",data:=.seq ([]:List OR).toArray}}:=I2.lnew (t':=s₂.toks) .nil (QP _)
  obtain⟨W,⟨m0,w0⟩,turn⟩:=hq _ hlF
  have f3:∀b∈fp,pk X pins (bE H2 s₂.heap.objs.size (.lst [])) b:=fun b hb=>by
    obtain⟨f0,fr⟩:=f2 b hb
    obtain⟨o,ho,_⟩:=T.obj _ _ st2 b hb
    exact⟨by rw [ax (Qn (Pr ho))];exact f0,fr⟩
  have st3:tn 0 (s₂.heap.push {cls:=.type "list",data:=.seq ([]:List OR).toArray}):=T.keep _ _ _ st2 fun b _ o e=>PL _ e
  generalize hD:s₂.heap.objs.size=D at*
  generalize hs3:({s₂ with heap:=s₂.heap.push {cls:=.type "list",data:=.seq ([]:List OR).toArray}}:OS)=s₃ at*
  have hst3:tn 0 s₃.heap:=by rw [←hs3];exact st3
  refine Da (fun h₁ hns₁ old hownC apC=>?_)
  generalize hC:s₃.heap.objs.size=C at*
  have nC:∀b o,s₃.heap.get? b=some o→b≠C:=fun b o e=>by rw [←hC];exact Qn (Pr e)
  obtain⟨ok',I4⟩:=yD (cp:=cp) (tgN:=tgN) hsc hN0 hk hown hfr hcp hcq I3 f3 (fun b hb=>let ⟨o,e,_⟩:=T.obj _ _ hst3 b hb;⟨o,e⟩) hC hns₁ old hownC apC
  have hst4:tn 0 h₁:=T.keep _ _ _ hst3 fun b _ o e=>old b o e
  have loop:codeAny (Pe X.prog X.w) X.A (.compLoop (.ListComp elt [⟨tg,iter,ifs,0⟩] scope pos) 0 (.ref it) (.ref D) (compEnvC scope (PD (C+1) scope.names (jr X.env scope.names [])) C X.env))
      (compPost (Pe X.prog X.w) X.A X.xe use RR (.ref D) C) {s₃ with heap:=h₁}:=by
    refine s_ (fun n s'=>∃i σ' H',aM (bo X scope cp tgN C s₃ (bE H2 D (.lst [])) fp) [] σ' H' s'∧tn i s'.heap∧(∀b∈fp,H' b=none)∧W i n σ' H') ?_ (n0:=m0) ⟨0,_,_,I4,hst4,fun b hb=>(f3 b hb).1,w0⟩
    rintro n s5 ⟨i,σ5,H5,I5,st5,fr5,w5⟩
    have stat:∀{H':Hp},(∀b∈fp,H' b=none)→∀b∈fp,pk (bo X scope cp tgN C s₃ (bE H2 D (.lst [])) fp) [] H' b:=fun hn b hb=>
      ⟨hn b hb,(ok'.exf b hb).1,ok'.exfs b hb,.inl hb,(ok'.exf b hb).2,fun p hp=>by simp [bo] at hp⟩
    rcases turn i n σ5 H5 w5 with ⟨stop,qn⟩ | ⟨go,N,hN,step⟩
    · refine cR (T.done (bo X scope cp tgN C s₃ (bE H2 D (.lst [])) fp) rfl rfl rfl hc i [] s5 σ5 H5 (fun _ _=>False) I5 (stat fr5) st5 stop) fun r s6 ⟨hr,I6⟩=>?_
      subst hr
      refine⟨fun _=>?_,fun v z=>by cases z⟩
      obtain⟨m,hn,_⟩:=I6.loc
      exact fin C D H5 s6 ⟨m,hn⟩ qn (I3.fpOk (by rw [hC];exact Pp _) I6.free) (yE I3 f3 nC I6)
    · refine cR (T.item (bo X scope cp tgN C s₃ (bE H2 D (.lst [])) fp) rfl rfl rfl hc i [] s5 σ5 H5 (fun _ _=>False) I5 (stat fr5) st5 go) fun r s6 ⟨u,hr,h6⟩=>?_
      subst hr
      refine⟨fun z=>(by cases z),fun v z=>?_⟩
      cases z
      refine cR h6 fun _ s7 ⟨x,H7,I7,r7,y7,st7,fr7⟩=>?_
      have I7':=I7.pinned (stat fr7) (T.obj _ _ st7)
      have again:∀{σ8:L2.St} {H8:Hp} {s8:OS},aM (bo X scope cp tgN C s₃ (bE H2 D (.lst [])) fp) ([]++qh fp s7.heap) σ8 H8 s8→N σ8 H8→∃m,m < n∧∃i σ' H',aM (bo X scope cp tgN C s₃ (bE H2 D (.lst [])) fp) [] σ' H' s8∧tn i s8.heap∧(∀b∈fp,H' b=none)∧W i m σ' H':=fun{σ8 H8 s8} I8 n8=>by
        obtain⟨m',hm,w8⟩:=hN σ8 H8 n8
        refine⟨m',hm,i+1,σ8,H8,I8.unpinned,T.keep _ _ _ st7 fun b hb o e=>(I8.pin (b,o) (QU _ (QU _ (jE hb e)))).1,fun b hb=>?_,w8⟩
        obtain⟨o,e,d⟩:=T.obj _ _ st7 b hb
        exact(I8.pin (b,o) (QU _ (QU _ (jE hb e)))).2.1
      refine cR (hg C s₃ (bE H2 D (.lst [])) fp _ s7 σ5 H7 x u _ I7' r7 (step x H7 y7)) fun _ s8 ⟨σ8,H8,I8,q8⟩=>?_
      refine cR (ht C s₃ (bE H2 D (.lst [])) fp _ s8 σ8 H8 _ I8 q8) fun ok s9 ⟨H9,I9,q9⟩=>?_
      cases ok with
      | false=>
        rw [if_neg Rz] at q9 ⊢
        exact again I9 q9
      | true=>
        rw [if_pos rfl] at q9 ⊢
        refine cR (he C s₃ (bE H2 D (.lst [])) fp _ s9 σ8 H9 _ I9 q9) fun v s10 ⟨xv,H10,I10,r10,ys,hl,hz,n10⟩=>?_
        refine cR (rW _ s10 σ8 H10 (.ref D) [xv] (.ref D) [v] (fun _ H=>N σ8 H) I10 rfl (.cons r10 .nil) ⟨D,ys,xv,rfl,rfl,hl,hz,n10⟩) fun _ s11 ⟨_,H11,I11,_,q11⟩=>?_
        exact again I11 q11
  exact codeAny_compStart_list loop (T.self X.A 0 _ _ _ hst4 loop)
theorem AX{X:Cx}{elt iter tg:OV}{ifs:List OV}{scope:Pz}{pos:Pos}{wi:TI}{g:TG}{tc:TT}{te:TE}(sc0:Pz)(N0:List Str)(cp:List (Nat × Str))(tgN:List Str)
    (hc:X.calm=true)(hsc:X.env.scope=sc0)(hN0:X.N=N0)(hi:PI X tg iter wi)
    (hg:∀C s0 H0 fp,PG (bo X scope cp tgN C s0 H0 fp) tg g)
    (ht:∀C s0 H0 fp,Ca (bo X scope cp tgN C s0 H0 fp) ifs tc)
    (he:∀C s0 H0 fp,PE (bo X scope cp tgN C s0 H0 fp) elt te)
    (hk:scope.kind=.function)(hown:∀y∈scope.names,y.2=.cell→scope.names.lookup y.1=some .cell)(hnames:∀y∈scope.names,y.2=.local→scope.names.lookup y.1=some .local)
    (hfr:∀y∈scope.names,y.2=.free→scope.names.lookup y.1=some .free∧sc0.names.lookup y.1=some .cell)
    (hcp:∀p∈cp,N0[p.1]?=some p.2)(hcq:∀p∈cp,sc0.names.lookup p.2=some .cell∧scope.names.lookup p.2=some .free)
    (hs:∀x,RM iter X.env x=pure x:=by intro _;rfl):
    PE X (.ListComp elt [⟨tg,iter,ifs,0⟩] scope pos) (BX cp tgN.length wi g tc te):=by
  intro pins s σ H Q I h
  rw [eval_ListComp]
  exact zS sc0 N0 cp tgN hc hsc hN0 hi hg ht he hk hown hnames hfr hcp hcq hs I h fun C D H5 s6 ⟨m,hn⟩ q _ key=>⟨m,hn,fun h' sb=>⟨.ref D,H5,key h' sb,rfl,q⟩⟩
def Ft(sc0 scope:Pz)(N0:List Str)(cp:List (Nat × Str))(W:List Nat):Bool:=
  (scope.names.all fun y=>(!(y.2==.local) || scope.names.lookup y.1==some .local)&&(!(y.2==.cell) || scope.names.lookup y.1==some .cell)&&(!(y.2==.free) || (scope.names.lookup y.1==some .free&&sc0.names.lookup y.1==some .cell)))&&
  (cp.all fun p=>N0[p.1]?==some p.2&&sc0.names.lookup p.2==some .cell&&scope.names.lookup p.2==some .free)&&decide ((cp.map (·.1)).Nodup)&&W.all fun j=>decide (cp.length≤j)
theorem CA{sc0 scope:Pz}{N0:List Str}{cp:List (Nat × Str)}{W:List Nat}(hch:Ft sc0 scope N0 cp W=true):
    (∀y∈scope.names,y.2=.cell→scope.names.lookup y.1=some .cell)∧(∀y∈scope.names,y.2=.local→scope.names.lookup y.1=some .local)∧
    (∀y∈scope.names,y.2=.free→scope.names.lookup y.1=some .free∧sc0.names.lookup y.1=some .cell)∧(∀p∈cp,N0[p.1]?=some p.2)∧(∀p∈cp,sc0.names.lookup p.2=some .cell∧scope.names.lookup p.2=some .free)∧
    (cp.map (·.1)).Nodup∧∀j∈W,cp.length≤j:=by
  simp only [Ft,PV,PY,decide_eq_true_eq] at hch
  obtain⟨⟨⟨h1,h2⟩,h3⟩,h4⟩:=hch
  refine⟨fun y hy e=>?_,fun y hy e=>?_,fun y hy e=>?_,fun p hp=>?_,fun p hp=>?_,h3,h4⟩
  · have:=(h1 y hy).1.2;rw [e] at this;simpa using this
  · have:=(h1 y hy).1.1;rw [e] at this;simpa using this
  · have:=(h1 y hy).2;rw [e] at this;simpa using this
  · have:=(h2 p hp).1.1;simpa using this
  · have a:=(h2 p hp).1.2;have c:=(h2 p hp).2;exact⟨by simpa using a,by simpa using c⟩
theorem eM{X:Cx}{K:OU}{pos:Pos}{elt iter tg:OV}{ifs:List OV}{scope:Pz}{fi:FI}{g:FG}{ft:FT}{fe:FE}{W:List Nat}(cp:List (Nat × Str))(tgN:List Str)
    (hKx:X.K=K)(hc:X.calm=true)(hi:PI X tg iter (fI K fi))
    (hg:∀C s0 H0 fp,PG (bo X scope cp tgN C s0 H0 fp) tg (fG K g W))
    (ht:∀C s0 H0 fp,Ca (bo X scope cp tgN C s0 H0 fp) ifs (fT K ft))
    (he:∀C s0 H0 fp,PE (bo X scope cp tgN C s0 H0 fp) elt (fE K fe))
    (hk:scope.kind=.function)(hch:Ft X.env.scope scope X.N cp W=true)
    (hs:∀x,RM iter X.env x=pure x):
    PE X (.ListComp elt [⟨tg,iter,ifs,0⟩] scope pos) (fE K (cZ cp tgN.length fi g ft fe)):=by
  subst hKx
  obtain⟨h0,h1,h2,h3,h4,h5,h6⟩:=CA hch
  exact(AX X.env.scope X.N cp tgN hc rfl rfl hi hg ht he hk h0 h1 h2 h3 h4 hs).mono fun _ _ _ h=>B7 h5 h6 h
open PySem PySem.Spec PyProof.Rows PySem.W
structure zC (lt:Nat→Nat→Bool):Prop where
  irr:∀i,lt i i=false
  tr:∀{i j k},lt i j=false→lt j k=false→lt i k=false
  asy:∀{i j},lt i j=true→lt j i=false
abbrev gA(p:Array Nat)(i:Nat):Nat:=p.getD i 0
structure L8 (n:Nat) (p:Array Nat):Prop where
  sz:p.size=n
  pm:p.Perm (List.toArray (QS n))
section
variable{lt:Nat→Nat→Bool}{n:Nat}(O:zC lt)
include O
end
open PySem PySem.Spec PyProof.Rows PySem.W
section
variable{prog:OZ}{w:OW}{A:Pb}{E:OR→OS→Prop}{s:OS}
end
open PySem PySem.Spec PyProof.Rows PySem.W
section
variable{X:Cx}{K:OU}
def Kl(h:OY)(v:OR)(r:List Int):Prop:=∃(a:xM) (o:Obj) (xs:List OR) (n:Nat),v=.ref a∧h.get? a=some o∧o.cls=.type "tuple"∧o.data=.seq xs.toArray n∧QW xs r
end
open PySem PySem.Spec PyProof.Rows PySem.W PySem.SeqAt
open PySem.AutoSeq1 (wpAny_loadPart')
open MeetsSeq MeetsSeq2 MeetsSeq3 SeqRoads2
open PySem PySem.Spec PyProof.Rows PySem.W PySem.SeqAt
section
variable{A:Pb}{s:OS}
end
inductive Cm
  | i (k:Int)
  | r (f:List Int)
  | rs (R:List (List Int))
def Cm.s:Cm→Nat
  | .i _=>0
  | .r _=>1
  | .rs R=>2+R.length
section
variable{A:Pb}{s:OS}
end
open PySem PySem.Spec PyProof.Rows PySem.W PySem.SeqAt
def KO:OT→Option (List Int)
  | .tuple ds=>oe ds
  | _=>none
def EW:List OT→Option (List (List Int))
  | []=>some []
  | d::r=>(KO d).bind fun a=>(EW r).map (a::·)
def Ku:OT→Option Cm
  | .int k=>some (.i k)
  | .tuple ds=>match oe ds with
    | some f=>some (.r f)
    | none=>(EW ds).map .rs
  | _=>none
def H_:List OT→Option (List Cm)
  | []=>some []
  | d::r=>(Ku d).bind fun a=>(H_ r).map (a::·)
def Jr:OT→Option (List Cm)
  | .tuple ds=>H_ ds
  | _=>none
section
variable{X:Cx}{K:OU}
def okN:List OT→Bool
  | []=>true
  | d::r=>match Jr d with
    | some (c::cs)=>(c.s != 0)&&(d::r).all fun x=>(Jr x).map (Ro Cm.s)==some ((c::cs).map Cm.s)
    | _=>false
end
open PySem PySem.Spec PyProof.Rows PySem.W
section
variable{prog:OZ}{w:OW}{A:Pb}{E:OR→OS→Prop}{s:OS}{κ:SortKind}{it:Array Keyed}{N:Nat}{lt:Nat→Nat→Bool}{st:SortSt}
end
open PySem PySem.Spec PyProof.Rows PySem.W
section
variable{lt:Nat→Nat→Bool}(O:zC lt)
abbrev C1(lt:Nat→Nat→Bool)(x y:Nat):Prop:=lt y x=false
include O
end
structure Fn (lt:Nat→Nat→Bool) (A B r:List Nat):Prop where
  pm:r.Perm (A++B)
  so:r.Pairwise (C1 lt)
structure Mg (lt:Nat→Nat→Bool) (A B o:List Nat) (ia ib:Nat):Prop where
  pm:o.Perm (A.take ia++B.take ib)
  so:o.Pairwise (C1 lt)
  la:∀x∈o,∀y∈A.drop ia,C1 lt x y
  lb:∀x∈o,∀y∈B.drop ib,C1 lt x y
section
variable{lt:Nat→Nat→Bool}{A B o:List Nat}{ia ib:Nat}
end
section
variable{it:Array Keyed}
end
open PySem PySem.Spec PyProof.Rows PySem.W
section
variable{prog:OZ}{w:OW}{A:Pb}{E:OR→OS→Prop}{s:OS}{κ:SortKind}{it:Array Keyed}{N:Nat}{lt:Nat→Nat→Bool}{st:SortSt}{a b:Array Nat}
structure L' (lt:Nat→Nat→Bool) (a b:Array Nat) (o:List Nat) (ia ib:Nat):Prop where
  m:Mg lt a.toList b.toList o ia ib
  ha:ia+1 < a.size
  hb:ib < b.size
structure Md (N:Nat) (lt:Nat→Nat→Bool) (a b:Array Nat):Prop where
  o:zC lt
  sa:a.toList.Pairwise (C1 lt)
  sb:b.toList.Pairwise (C1 lt)
  qa:∀j,j < a.size→gA a j < N
  qb:∀j,j < b.size→gA b j < N
  a0:0 < a.size
  b0:0 < b.size
  fst:lt (gA b 0) (gA a 0)=true
  lst:∀j,j < b.size→lt (gA b j) (gA a (a.size - 1))=true
end
open PySem PySem.Spec PyProof.Rows PySem.W
structure Hg (lt:Nat→Nat→Bool) (A B o:List Nat) (na nb:Nat):Prop where
  pm:o.Perm (A.drop na++B.drop nb)
  so:o.Pairwise fun x y=>C1 lt y x
  la:∀x∈o,∀y∈A.take na,C1 lt y x
  lb:∀x∈o,∀y∈B.take nb,C1 lt y x
section
variable{lt:Nat→Nat→Bool}{A B o:List Nat}{na nb:Nat}
end
section
variable{it:Array Keyed}
end
section
variable{prog:OZ}{w:OW}{A:Pb}{E:OR→OS→Prop}{s:OS}{κ:SortKind}{it:Array Keyed}{N:Nat}{lt:Nat→Nat→Bool}{st:SortSt}{a b:Array Nat}
structure L9 (lt:Nat→Nat→Bool) (a b:Array Nat) (o:List Nat) (na nb:Nat):Prop where
  m:Hg lt a.toList b.toList o na nb
  ha:0 < na
  hb:1 < nb
  la:na≤a.size
  lb:nb≤b.size
end
open PySem PySem.Spec PyProof.Rows PySem.W
section
variable{prog:OZ}{w:OW}{A:Pb}{E:OR→OS→Prop}{s:OS}{κ:SortKind}{it:Array Keyed}{N:Nat}{lt:Nat→Nat→Bool}{st:SortSt}
end
open PySem PySem.Spec PyProof.Rows PySem.W
structure Ch (lo:Nat) (p p':Array Nat):Prop where
  sz:p'.size=p.size
  pm:p'.Perm p
  low:∀i,i < lo→gA p' i=gA p i
section
variable{lt:Nat→Nat→Bool}(O:zC lt){p:Array Nat}{lo m:Nat}
include O
end
section
variable{prog:OZ}{w:OW}{A:Pb}{E:OR→OS→Prop}{s:OS}{κ:SortKind}{it:Array Keyed}{N:Nat}{lt:Nat→Nat→Bool}{p:Array Nat}{pend:Array (Nat × Nat × Nat)}{g lo nrem:Nat}
end
open PySem PySem.Spec PyProof.Rows PySem.W
section
variable{prog:OZ}{w:OW}{A:Pb}{E:OR→OS→Prop}{s:OS}{κ:SortKind}{it:Array Keyed}{N:Nat}{lt:Nat→Nat→Bool}{p:Array Nat}{pend:Array (Nat × Nat × Nat)}{g lo:Nat}
end
open PySem PySem.Spec PyProof.Rows PySem.W
section
variable{prog:OZ}{w:OW}{A:Pb}{E:OR→OS→Prop}{s:OS}
end
section
variable{X:Cx}{K:OU}
end
open PySem PySem.Spec PyProof.Rows PySem.W
section
variable{X:Cx}{K:OU}
end
open PySem PySem.Spec PyProof.Rows PySem.W
section
variable{X:Cx}{K:OU}
end
section
variable{X:Cx}{K:OU}
variable{o a:OV}{es:List OV}{fo:FE}{fs:FA}{apos cpos:Pos}
end
section
variable{X:Cx}{K:OU}{σ σ2:L2.St}{H0 F H F2 H2 F3:Hp}{e e2:En}
mutual
theorem DA.dropL(hd:∀a o,F2 a=some o→(∀xs,o≠.lst xs)→F3 a=some o):∀{d:OT} {v:V},fU d=true→DA K F2 d v→DA K F3 d v
  | .none,_,_,h=>h
  | .bool _,_,_,h=>h
  | .int _,_,_,h=>h
  | .str _,_,_,h=>h
  | .tuple ds,v,f,h=>by
    obtain⟨a,xs,e1,h1,h2⟩:=cN.mp h
    refine cN.mpr ⟨a,xs,e1,?_,aP.dropL hd (by simpa [fU] using f) h2⟩
    rcases h1 with (h1 | ⟨o,h1⟩) | h1
    · exact .inl (.inl (hd a _ h1 fun xs z=>by cases z))
    · exact .inl (.inr ⟨o,hd a _ h1 fun xs z=>by cases z⟩)
    · exact .inr h1
  | .list _,_,f,_=>by simp [fU] at f
  | .dict _,_,f,_=>by simp [fU] at f
theorem aP.dropL(hd:∀a o,F2 a=some o→(∀xs,o≠.lst xs)→F3 a=some o):∀{ds:List OT} {vs:List V},cq ds=true→aP K F2 ds vs→aP K F3 ds vs
  | [],_,_,h=>h
  | d::ds,vs,f,h=>by
    simp only [aP] at h ⊢
    obtain⟨x,r,e1,h1,h2⟩:=h
    simp only [cq,PV] at f
    exact⟨x,r,e1,DA.dropL hd f.1 h1,aP.dropL hd f.2 h2⟩
end
def z0:Sv→Bool
  | .d x=>fU x
  | .l xs=>cq xs
  | .n yss=>yss.all cq
end
section
variable{X:Cx}{K:OU}{a b:OV}{fa fb:FE}{pos p p1 p2 p3 pos':Pos}{x:Str}{i:Nat}
end
section
variable{X:Cx}{K:OU}
end
section
variable{prog:OZ}{w:OW}{A:Pb}{R:Result→OS→Prop}
end
def D4(l:xM)(wi:TI)(g:TG)(tc:TT)(tk tv:TE)(σ:L2.St)(H:Hp)(N:L2.St→Hp→Prop):Prop:=
  wi σ H fun J H1=>∃W:Nat→Nat→L2.St→Hp→Prop,(∃m,W 0 m σ H1)∧∀i m σ' H',W i m σ' H'→
    (J.stop i H'∧N σ' H')∨(J.go i H'∧∃N2:L2.St→Hp→Prop,(∀σ2 H2,N2 σ2 H2→∃m',m' < m∧W (i+1) m' σ2 H2)∧
      ∀x H2,J.yld i H' x H2→g x σ' H2 fun σ2 H3=>tc σ2 H3 fun b H4=>if b=true then tk σ2 H4 fun y H5=>tv σ2 H5 fun v H6=>∃(kk:jW) (kvs:List (jW × V)),y=kV kk∧H6 l=some (.dK kvs)∧kvs.length < Pk∧N2 σ2 (bE H6 l (.dK (Ja kvs kk v))) else N2 σ2 H4)
structure J7 (cp:List (Nat × Str)) (nT:Nat) (wi:TI) (g:TG) (tc:TT) (wi2:TI) (g2:TG) (tc2:TT) (tk tv:TE) (σ:L2.St) (H:Hp) (Q:VK):Prop where
  go:wi σ H fun J H1=>∀l,H1 l=none→
  ∃W:Nat→Nat→L2.St→Hp→Prop,(∃m,W 0 m (jM cp nT σ) (bE H1 l (.dK [])))∧∀i m σ' H',W i m σ' H'→
    (J.stop i H'∧Q (.ref l) H')∨(J.go i H'∧∃N:L2.St→Hp→Prop,(∀σ2 H2,N σ2 H2→∃m',m' < m∧W (i+1) m' σ2 H2)∧
      ∀x H2,J.yld i H' x H2→g x σ' H2 fun σ2 H3=>tc σ2 H3 fun b H4=>if b=true then D4 l wi2 g2 tc2 tk tv σ2 H4 N else N σ2 H4)
def aK(p:Int × vU):jW × V:=(Sum.inl p.1,p.2.toV)
def aD(p:Int × vU):OT × OT:=(.int p.1,p.2.toD)
section
variable{K:OU}{F H F' H':Hp}{σ σ':L2.St}{e e':En}{nT:Nat}
inductive CD (K:OU) (W:List Nat) (σ0:L2.St) (F1 H1:Hp) (e0:En) (l:xM) (P:Hp→En→List (Int × vU)→Prop) (σ':L2.St) (H':Hp):Prop
  | mk {F':Hp} {ei:En} {acc:List (Int × vU)} (R:a_ K F' H' σ' ei) (X:dY W σ0 F1 H1 e0 σ' F' H' ei) (fl:F' l=none) (hl:H' l=some (.dK (acc.map aK))) (pl:∀p∈acc,∀F,p.2.ok K F) (hc:P F' ei acc):CD K W σ0 F1 H1 e0 l P σ' H'
end
section
variable{X:Cx}{K:OU}{pos:Pos}
end
section
variable{K:OU}{F H F' H' F1 H1 F2 H2:Hp}{σ σ' σ1 σ2:L2.St}{e e' e1 e2:En}{i:Nat}{W W1 W2:List Nat}
theorem Fp.drop{j:Nat}{a:xM}(h:Fp σ (e.set i none) H j a):Fp σ e H j a:=by
  by_cases z:j=i
  · subst z
    rcases h with ⟨xs,h,_⟩ | ⟨xss,_,_,h,_⟩
    · rw [RK] at h
      split at h
      · split at h<;>cases h
      · rename_i n;exact absurd rfl n
    · rw [RK] at h
      split at h
      · split at h<;>cases h
      · rename_i n;exact absurd rfl n
  · unfold Fp at h ⊢
    rw [Pm (Pt z)] at h
    exact h
theorem mh{j:Nat}{s:Sv}(h:(e.set i none)[j]?=some (some s)):e[j]?=some (some s):=by
  by_cases z:i=j
  · subst z
    rw [RK] at h
    rw [if_pos rfl] at h
    split at h<;>cases h
  · rwa [Pm z] at h
theorem bA.drop{a:xM}(h:bA σ (e.set i none) H a):bA σ e H a:=let ⟨j,q⟩:=h;⟨j,q.drop⟩
theorem a_.drop(R:a_ K F H σ e)(i:Nat):a_ K F H σ (e.set i none):=⟨R.sm,by rw [RH];exact R.len,fun j x h=>R.dat j x (mh h),fun j xs h=>R.own j xs (mh h),fun j xss h=>R.nst j xss (mh h),fun j k a h1 h2=>R.fp j k a h1.drop h2.drop⟩
structure Kj (K:OU) (i:Nat) (F H:Hp) (σ:L2.St) (e:En):Prop where
  rel:a_ K F H σ (e.set i none)
  dct:∃(l:xM) (m:List (Int × vU)),e[i]?=some (some (.d (.dict (m.map aD))))∧σ[i]?=some (some (.ref l))∧F l=none∧H l=some (.dK (m.map aK))∧∀p∈m,∀F,p.2.ok K F
structure Lu (i:Nat) (W:List Nat) (σ:L2.St) (F H:Hp) (e:En) (σ':L2.St) (F' H':Hp) (e':En):Prop where
  sf:aq F F'
  dom:∀a,H' a=none→H a=none
  fr:∀a vs,F a=none→H a=some (.lst vs)→¬bA σ (e.set i none) H a→F' a=none
  lst:∀a vs,H a=some (.lst vs)→∃vs',H' a=some (.lst vs')
  tmp:∀a o,H a=some o→¬bA σ (e.set i none) H a→σ[i]?≠some (some (.ref a))→H' a=some o
  own:∀a,bA σ' (e'.set i none) H' a→bA σ (e.set i none) H a∨H a=none
  wr:∀j,j∉W→σ'[j]?=σ[j]?
  dd:σ'[i]?=σ[i]?
  fd:∀a (m:DI),F a=none→H a=some m.1→¬bA σ (e.set i none) H a→σ[i]?≠some (some (.ref a))→F' a=none
end
section
variable{X:Cx}{K:OU}{i:Nat}{W W1 W2:List Nat}{st:Pa}{cA:List Pa}{f g:FS}{ft:FT}{pos:Pos}
inductive J' (K:OU) (i:Nat) (F1:Hp) (P:En→Prop) (G:L2.St→Hp→Hp→En→Prop) (σ:L2.St) (H:Hp):Prop
  | mk {F:Hp} {e:En} (R:Kj K i F H σ e) (sF:aq F1 F) (hf:P e) (q:G σ F H e):J' K i F1 P G σ H
theorem jv{H:Hp}{σ:L2.St}{e:En}{v:Option V}{j:Nat}{a:xM}:Fp (σ.set i v) (e.set i none) H j a↔ Fp σ (e.set i none) H j a:=by
  by_cases z:i=j
  · subst z
    have no:∀s:Sv,(e.set i none)[i]?≠some (some s):=fun s h=>by
      rw [RK,if_pos rfl] at h
      split at h<;>cases h
    constructor
    · rintro(⟨xs,h,_⟩ | ⟨xss,_,_,h,_⟩)
      · exact absurd h (no _)
      · exact absurd h (no _)
    · rintro(⟨xs,h,_⟩ | ⟨xss,_,_,h,_⟩)
      · exact absurd h (no _)
      · exact absurd h (no _)
  · have e1:(σ.set i v)[j]?=σ[j]?:=Pm z
    unfold Fp
    rw [e1]
theorem a_.poke{F H:Hp}{σ:L2.St}{e:En}(R:a_ K F H σ (e.set i none))(v:Option V):a_ K F H (σ.set i v) (e.set i none):=by
  have ne:∀(j:Nat) (s:Sv),(e.set i none)[j]?=some (some s)→i≠j:=fun j s h z=>by
    subst z
    rw [RK,if_pos rfl] at h
    split at h<;>cases h
  refine⟨R.sm,by rw [RH];exact R.len,fun j x h=>?_,fun j xs h=>?_,fun j xss h=>?_,fun j k a h1 h2=>R.fp j k a (jv.mp h1) (jv.mp h2)⟩
  · rw [Pm (ne j _ h)];exact R.dat j x h
  · rw [Pm (ne j _ h)];exact R.own j xs h
  · rw [Pm (ne j _ h)];exact R.nst j xss h
end
section
variable{X:Cx}{C:xM}{x:Str}{p pos rp:Pos}{e:OV}{t:TA}
end
structure L3 (P:OZ) (w:OW) (fs:List xM) (H H':Hp) (h b0:OY):Prop where
  keep:∀b o,h.get? b=some o→H b=none→b∉fs→b0.get? b=some o
  there:∀b o,h.get? b=some o→b∉fs→∃o',b0.get? b=some o'
  free:∀b o,h.get? b=some o→H b=none→H' b=none
  tups:∀b xs,H b=some (.tup xs)→H' b=some (.tup xs)
  frzs:∀b o u,H b=some (.frz o u)→H' b=some (.frz o u)
  tbls:∀b ps,H b=some (.tbl ps)→∃more,H' b=some (.tbl (ps++more))
  hok:oF P w H' b0
section
variable{P:OZ}{w:OW}{K:OU}{mg:Str→Option OR}{base:OY}{N:List Str}{qual:Str}{scope:Pz}{f:xM}{cd:OR}{A:Pb}{outer:List Env}{s:OS}{H:Hp}{E:XK}{C:xM}{pins:List (xM × Obj)}{σ:L2.St}{H1:Hp}{s1:OS}
end
section
variable{X:Cx}{K:OU}{st r:Pa}{cA:List Pa}{c:OV}{pos:Pos}{f1:FS}{ft:FT}{W1:List Nat}{g:En→Prop}
end
open PySem PySem.Spec PyProof.Rows PySem.W
section
variable{prog:OZ}{w:OW}{A:Pb}{E:OR→OS→Prop}{h:OY}{g:Array GenState}{d:Drawn}{t:Nat}{os:OsState}{a D:xM}{o:Obj}{K:Frag}
structure Ls (K:Frag) (D:xM):Prop where
  ga:findIn K (.ref D) "__getattribute__"=some (some (.builtin "BaseException.__getattribute__"))
  gt:findIn K (.ref D) "__getattr__"=some none
  cl:findIn K (.ref D) "__class__"=some (some (.builtin "object.__class__"))
  mo:mroIn K D (.type "object")=some true
  mb:mroIn K D (.type "BaseException")=some true
  cs:(clsIn K D).isSome=true
end
def KC(C a:xM)(h:OY):Prop:=∃o,h.get? a=some o∧o.cls=.ref C
def LK(C a:xM):HO:=.ext (KC C a)
section
variable{X:Cx}{pins:List (xM × Obj)}{σ:L2.St}{H H':Hp}{s:OS}{n:Str}{j:Nat}
end
section
variable{X:Cx}{C Cb f:xM}{fd:Pj}{ps:List Str}{k n k0 i j:Nat}{g:En→Prop}{fn B kx nx:Str}{p pos ep bp kp np ap hp tp:Pos}{e:OV}{es:List OV}{t:TA}
end
section
variable{X:Cx}{C:xM}{i:Nat}{x c:Str}{p p1 p2 pos:Pos}{v:V}{u:OR}{b:Bool}
def KZ(i:Nat)(C:xM)(b:Bool):TE:=fun σ H Q=>∃a,σ[i]?=some (some (.ref a))∧H a=some (LK C a)∧Q (.bl b) H
end
abbrev t3(C:xM)(b1 b2 b3:Bool):TE:=JF (oA (KZ 0 C b1) (oA (KZ 0 C b2) (oA (KZ 0 C b3) BZ)))
section
variable{K:OU}
end
section
variable{X:Cx}{K:OU}{C:xM}{x:Str}{p pos rp:Pos}{e:OV}{fs:FA}
end
section
variable{P:OZ}{w:OW}{K:OU}{mg:Str→Option OR}{base:OY}{N ps:List Str}{qual fn:Str}{scope:Pz}{fa f:xM}{cd:OR}{A:Pb}{outer:List Env}{s:OS}{H:Hp}{E:XK}{C:xM}{st:Pa}{fd:Pj}{k n k0:Nat}{g:En→Prop}{p pos ep:Pos}{e:OV}{es:List OV}{fs:FA}
end
section
variable{X:Cx}{C:xM}{i:Nat}{x:Str}{p p1 p2 pos:Pos}{vs:List V}{us:List OR}{b:Bool}{cs:List OV}{ctx:Nat}
end
section
variable{K:OU}{σ:L2.St}{H:Hp}
end
section
variable{X:Cx}
end
abbrev Kk(l:List Nat):Prop:=l.Pairwise (· < ·)
section
variable{prog:OZ}{w:OW}{A:Pb}{E:OR→OS→Prop}{s:OS}
end
section
variable{prog:OZ}{w:OW}{A:Pb}{E:OR→OS→Prop}{s:OS}
end
def LV(t:SetTable):Nat→Nat
  | 0=>0
  | i+1=>t.place.getD i 0+1
inductive Kp (w:OW) (a:xM) (es:Array (Int × OR)) (ep:Nat) (t:SetTable) (h:OY):List OR→xM→Nat→OR→Prop where
  | text (hb:w.params.followText "set-order"=true) (p:xM) (i:Nat) (hp:p=a):Kp w a es ep t h ((pickOrder (w.params.setOrder a ep) es).toList.map (·.2)) p i (rawInt 0)
  | led (hb:w.params.followText "set-order"=false) (hd:(!t.plain&&es.size > 1)=false) (hl:t.led=true) (hr:Kk t.place.toList) (p:xM) (i:Nat) (hp:p=a):Kp w a es ep t h (es.toList.map (·.2)) p i (rawInt (LV t i))
  | drawn (hb:w.params.followText "set-order"=false) (p:xM) (i:Nat) (ys:List Nat) (hy:ys.Perm (QS es.size)) (hp:IsTup h p (ys.map fun(i:Nat)=>rawInt i).toArray):Kp w a es ep t h (ys.filterMap fun i=>es[i]?.map (·.2)) p i (.ref p)
section
variable{prog:OZ}{w:OW}{A:Pb}{E:OR→OS→Prop}{s:OS}
end
section
variable{prog:OZ}{w:OW}{A:Pb}{E:OR→OS→Prop}{s:OS}{I a p:xM}{es:Array (Int × OR)}{ep:Nat}{t:SetTable}{L:List OR}{i:Nat}
end
section
variable{prog:OZ}{w:OW}{A:Pb}{E:OR→OS→Prop}{s:OS}{a:xM}{es:Array (Int × OR)}{ep:Nat}{t:SetTable}
end
section
variable{prog:OZ}{w:OW}{A:Pb}{E:OR→OS→Prop}{s:OS}
end
section
variable{prog:OZ}{w:OW}{A:Pb}{E:OR→OS→Prop}{s:OS}
end
section
variable{X:Cx}{K:OU}{a:OV}{fa:FE}{pos p pos2 p2:Pos}
end
section
variable{X:Cx}{K:OU}{a b1 b2 b3:OV}{fa:FE}{fs:FA}{pos p pos2 p2:Pos}
end
section
variable{prog:OZ}{w:OW}{A:Pb}{E:OR→OS→Prop}{s:OS}
end
section
variable{X:Cx}{K:OU}{b1 b2 b3:OV}{fs:FA}{pos p pos2 p2:Pos}
end
section
variable{X:Cx}{K:OU}{es:List OV}{k0:Nat}{tp:Pos}{a b:OV}{fs:FA}{p pos:Pos}
end
section
variable{X:Cx}{pins:List (xM × Obj)}{σ:L2.St}{H:Hp}{s:OS}
end
section
variable{prog:OZ}{w:OW}{A:Pb}{E:OR→OS→Prop}{s:OS}
end
section
variable{X:Cx}{K:OU}{es:List OV}{k0:Nat}{tp:Pos}{a b:OV}{fs:FA}{p pos:Pos}
end
structure J9 (z TI TO i1 i2 i3 l1 l2 l3:xM):Prop where
  nO:TO≠z
  nz:i1≠z∧i2≠z∧i3≠z
  nT:TO≠i1∧TO≠i2∧TO≠i3
  ni:i1≠i2∧i1≠i3∧i2≠i3
  l:∀a,a=l1∨a=l2∨a=l3→a≠z∧a≠TO∧a≠i1∧a≠i2∧a≠i3
section
variable{prog:OZ}{w:OW}{A:Pb}{E:OR→OS→Prop}{s:OS}{z TI TO i1 i2 i3 l1 l2 l3:xM}{k:Nat}{xs ys zs:Array OR}{a b c:OR}
end
section
variable{K:OU}{σ:L2.St}{F H:Hp}
end
section
variable{X:Cx}{K:OU}{es:List OV}{k0:Nat}{tp:Pos}{a b c:OV}{fs:FA}{p pos:Pos}
end
section
variable{X:Cx}{K:OU}{es:List OV}{k0:Nat}{tp:Pos}{a b:OV}{fs:FA}{p pos:Pos}
end
section
variable{X:Cx}{K:OU}{es:List OV}{k0:Nat}{tp:Pos}{a:OV}{ta:TA}{p pos:Pos}
end
section
variable{X:Cx}{K:OU}{es:List OV}{k0:Nat}{tp:Pos}{a:OV}{fs:FA}{p pos:Pos}
end
section
variable(P:OZ)(w:OW)
end
section
variable{P:OZ}{w:OW}{H H':Hp}{h h':OY}{a:xM}{o:HO}
end
section
variable{P:OZ}{w:OW}{H:Hp}{h h':OY}{x e:xM}{o':HO}
end
section
variable{fs fs' ex ex':List xM}{H H1 H2:Hp}{h h1 h2 h':OY}{a x e:xM}{o:HO}
end
section
variable{X:Cx}{pins:List (xM × Obj)}{σ:List (Option V)}{H H':Hp}{s:OS}{h':OY}
end
section
variable{X:Cx}
variable{a b:OV}{ta tb:TE}{pos:Pos}
variable{tA tB':TT}{cA:List OV}
end
section
variable{X:Cx}{pins:List (xM × Obj)}{σ:St}{H:Hp}{s:OS}{a:xM}{xs ys:List V}
end
section
variable{X:Cx}{pins:List (xM × Obj)}{σ:St}{H:Hp}{s:OS}{E:OR→OS→Prop}
end
section
variable{X:Cx}{st:Pa}{cA:List Pa}{t u:TS}{e:OV}{te:TE}{pos:Pos}
end
section
variable{X:Cx}{pos:Pos}
end
section
variable{X:Cx}{pos:Pos}
end
section
variable{X:Cx}{tg:OV}
end
section
variable{X:Cx}{a b c:OV}{ta tb tc:TE}{pos:Pos}
end
section
variable{X:Cx}{a b c:OV}{ta tb tc:TE}{pos:Pos}
end
section
variable{prog:OZ}{w:OW}{A:Pb}{E:OR→OS→Prop}{s:OS}{K:OU}{x dx C f:xM}{mA:Str→Option OR}{name:Str}{v:OR}
end
section
variable{P:OZ}{w:OW}{H H':Hp}{h h':OY}{a C dx:xM}{fs fs':List (Str × V)}
end
section
variable{X:Cx}{pins:List (xM × Obj)}{σ:St}{H:Hp}{s:OS}{a C dx:xM}{fs:List (Str × V)}{f:Str}{v:V}{A:Pb}{E:OR→OS→Prop}
end
section
variable{X:Cx}{o e value:OV}{f:Str}{pos pos' tpos:Pos}{ta tv:TE}
end
section
variable{X:Cx}{pins:List (xM × Obj)}{σ:St}{H:Hp}{s:OS}{A:Pb}{E:OR→OS→Prop}{Q:OR→OS→Prop}{c:OR}{b:Bool}
end
section
variable{X:Cx}{e:OV}{es:List OV}{te:TE}{t:TA}{pos:Pos}
end
section
variable{X:Cx}{pins:List (xM × Obj)}{σ:St}{H:Hp}{s s':OS}
end
section
variable{X:Cx}{CX:uv}{k:Nat}{f C:xM}{fd:Pj}{ps:List Str}{sp:Sp}{dvs:List V}{ds:List OR}{E:XK}{x m:Str}{p pos apos:Pos}{e o:OV}{es:List OV}{ta:TE}{t:TA}
end
section
variable{X:Cx}{CX:uv}{k:Nat}{f C:xM}{fd:Pj}{ps ks:List Str}{sp:Sp}{E:XK}{x m:Str}{p pos apos kpos:Pos}{e o:OV}{es:List OV}{kws:List Qh}{te ta:TE}{t tk:TA}{nm:Option Str}
variable{g:List OR→List OR→List OR}{gV:List V→List V→List V}
end
section
variable{X:Cx}{x:Str}{p pos:Pos}{e:OV}{es:List OV}{t:TA}{id T:String}{r:List V→Hp→VK→Prop}
end
section
variable{κ:Type}[DecidableEq κ]
end
section
variable{P:OZ}{w:OW}{H:Hp}{h:OY}{a:xM}
end
section
variable{X:Cx}{pins:List (xM × Obj)}{σ:St}{H:Hp}{s:OS}{a:xM}{y v:V}{u r:OR}{o:Option V}{A:Pb}{E:OR→OS→Prop}
end
section
variable{X:Cx}{pins:List (xM × Obj)}{σ:St}{H:Hp}{s:OS}{a:xM}{kvs:List (jW × V)}{k:jW}{u:OR}{A:Pb}{E:OR→OS→Prop}
end
section
variable{X:Cx}{o i e value:OV}{pos pos' tpos:Pos}{td ty tv:TE}
end
section
variable{X:Cx}{pos:Pos}
end
structure M2 (X:Cx) (o:OV) (m:Str) (apos:Pos) (e f:OV) (cpos:Pos):Prop where
  base:Qr o m X.env (Pf o X.env)=Pf o X.env
  few:((Po cpos (Pd [e,f] X.env)).all (fun x=> !x.1)&&(QL cpos (QM [] X.env)).all (fun x=>x.1.isSome)
    &&decide (([e,f]:List OV).length+([]:List Qh).length+(if ([]:List Qh).isEmpty then 0 else 1) < 30))=true
  line:(apos.endLine==cpos.line)=true
  trees:Po cpos (Pd [e,f] X.env)=[(false,Pf e X.env),(false,Pf f X.env)]
section
variable{X:Cx}{pins:List (xM × Obj)}{σ:St}{H:Hp}{s:OS}{a:xM}{y d:V}{u r:OR}{o:Option V}{A:Pb}{E:OR→OS→Prop}
end
section
variable{X:Cx}{o e f:OV}{apos cpos:Pos}{td ty tx:TE}
end
section
variable{X:Cx}{pins:List (xM × Obj)}{σ:St}{H:Hp}{s:OS}{a:xM}{kvs:List (jW × V)}{A:Pb}{E:OR→OS→Prop}
end
section
variable{X:Cx}{pins:List (xM × Obj)}{σ:St}{H:Hp}{s:OS}{a:xM}{y:V}{u:OR}{A:Pb}{E:OR→OS→Prop}
end
end L2
namespace Att
open PySem PySem.W PySem.Calls PyProof.Rows
section
variable{prog:OZ}{w:OW}{A:Pb}{E:OR→OS→Prop}{s:OS}{K:Frag}
end
end Att
namespace L2
open PySem PySem.Spec PyProof.Rows
section
variable{P:OZ}{w:OW}{K:OU}{mg:Str→Option OR}{base:OY}
end
section
variable{X:Cx}
end
section
variable{κ:Type}[DecidableEq κ]
end
section
variable{prog:OZ}{w:OW}{A:Pb}{R:Result→OS→Prop}
end
structure J6 (cp:List (Nat × Str)) (nT:Nat) (wi:TI) (g:TG) (tk tv:TE) (σ:L2.St) (H:Hp) (Q:VK):Prop where
  go:wi σ H fun J H1=>∀l,H1 l=none→
  ∃W:Nat→Nat→L2.St→Hp→Prop,(∃m,W 0 m (jM cp nT σ) (bE H1 l (.dK [])))∧∀i m σ' H',W i m σ' H'→
    (J.stop i H'∧Q (.ref l) H')∨(J.go i H'∧∃N:L2.St→Hp→Prop,(∀σ2 H2,N σ2 H2→∃m',m' < m∧W (i+1) m' σ2 H2)∧
      ∀x H2,J.yld i H' x H2→g x σ' H2 fun σ2 H4=>tk σ2 H4 fun y H5=>tv σ2 H5 fun v H6=>∃(kk:jW) (kvs:List (jW × V)),y=kV kk∧H6 l=some (.dK kvs)∧kvs.length < Pk∧N σ2 (bE H6 l (.dK (Ja kvs kk v))))
abbrev JY:=Int × Int × Int
def pD(p:JY):OT × OT:=(.int p.1,.tuple [.int p.2.1,.int p.2.2])
section
variable{K:OU}{F H F' H':Hp}{σ σ':L2.St}{e e':En}{cp:List (Nat × Str)}{nT:Nat}
def LJ(m:List (Int × vU))(acc:List JY):Prop:=m.map aD=acc.map pD
inductive Lq (K:OU) (W:List Nat) (σ0:L2.St) (F1 H1:Hp) (e0:En) (l:xM) (P:Hp→En→List JY→Prop) (σ':L2.St) (H':Hp):Prop
  | mk {F':Hp} {ei:En} {acc:List JY} {m:List (Int × vU)} (R:a_ K F' H' σ' ei) (X:dY W σ0 F1 H1 e0 σ' F' H' ei) (fl:F' l=none) (hl:H' l=some (.dK (m.map aK))) (ok:∀p∈m,p.2.ok K F') (ha:LJ m acc) (hc:P F' ei acc):Lq K W σ0 F1 H1 e0 l P σ' H'
end
section
variable{X:Cx}{K:OU}{pos:Pos}
end
section
variable{X:Cx}{K:OU}{pos:Pos}
end
section
variable{X:Cx}{K:OU}{g:En→Prop}{x:Str}{e a:OV}{es:List OV}{p pos:Pos}{T:String}
end
section
variable{P:OZ}{w:OW}{K:OU}{mg:Str→Option OR}{base:OY}{N ps:List Str}{qual fn:Str}{scope:Pz}{fa f:xM}{cd:OR}{A:Pb}{outer:List Env}{s:OS}{H:Hp}{E:XK}{C:xM}{st:Pa}{fd:Pj}{k n k0:Nat}{g:En→Prop}{p pos:Pos}{e:OV}{es:List OV}{fs:FA}
end
section
variable{X:Cx}{K:OU}{σ:L2.St}{F H:Hp}{e e':En}
end
def sm(f:Nat→Int):Nat→Int
  | 0=>0
  | n+1=>sm f n+f n
def sg:Nat→Int
  | 0=>1
  | n+1=> - sg n
def sk(j a:Nat):Nat:=if a < j then a else a+1
def Lg:Nat→(Nat→Nat→Int)→Int
  | 0,_=>1
  | k+1,c=>sm (fun j=>sg j*c j 0*Lg k (fun a i=>c (sk j a) (i+1))) (k+1)
def pu(c:Nat→Nat→Int)(p:Nat)(v:Nat→Int):Nat→Nat→Int:=fun a=>if a=p then v else c a
def sq(f:Nat→Rat):Nat→Rat
  | 0=>0
  | n+1=>sq f n+f n
structure Tb where
  T:Nat→Nat→Int
  d:Int
  out:Nat→Nat
  win:Nat→Nat
def LU(s:Tb)(r c:Nat):Tb where
  T:=fun i j=>if i=r then(if j=c then s.d else s.T r j) else if j=c then - s.T i c else(s.T i j*s.T r c - s.T i c*s.T r j) / s.d
  d:=s.T r c
  out:=fun j=>if j=c then s.win r else s.out j
  win:=fun k=>if k=r then s.out c else s.win k
section
variable(n m:Nat)(C:Nat→Nat→Int)
def Kh(x:Nat→Rat):Prop:=∀i,i≤m→sq (fun j=>(C j i:Rat)*x j) n+x (n+i)=(C (n+m+1) i:Rat)
structure Iv (s:Tb):Prop where
  dp:0 < s.d
  cl:∀j,j≤n→∀i,s.d*C (s.out j) i=sm (fun k=>s.T k j*C (s.win k) i) (m+1)
  dt:Lg (m+1) (fun k=>C (s.win k))=s.d
  fe:∀i,i < m→0≤s.T i n
  wm:s.win m=n+m
  on:s.out n=n+m+1
  oi:∀j,j < n→∀j',j' < n→s.out j=s.out j'→j=j'
  wi:∀k,k≤m→∀k',k'≤m→s.win k=s.win k'→k=k'
  dj:∀j,j < n→∀k,k≤m→s.out j≠s.win k
  cv:∀v,v≤n+m→(∃j,j < n∧s.out j=v)∨(∃k,k≤m∧s.win k=v)
  og:∀j,j < n→s.out j≤n+m
  wg:∀k,k≤m→s.win k≤n+m
  eq:∀x,Kh n m C x↔ ∀k,k≤m→(s.d:Rat)*x (s.win k)+sq (fun j=>(s.T k j:Rat)*x (s.out j)) n=(s.T k n:Rat)
end
section
variable{n m:Nat}{C:Nat→Nat→Int}{s:Tb}(I:Iv n m C s){r c:Nat}(hr:r < m)(hc:c < n)(hp:0 < s.T r c)
include I hr hc hp
end
section
variable(n m:Nat)
structure Lr (s:Tb) (c:Nat):Prop where
  hc:c < n
  neg:s.T m c < 0
  first:∀j,j < n→s.T m j < 0→s.out c≤s.out j
structure Ly (s:Tb) (c r:Nat):Prop where
  hr:r < m
  pos:0 < s.T r c
  rat:∀i,i < m→0 < s.T i c→s.T r n*s.T i c≤s.T i n*s.T r c
  first:∀i,i < m→0 < s.T i c→s.T r n*s.T i c=s.T i n*s.T r c→s.win r≤s.win i
structure LD (C:Nat→Nat→Int) (st:Nat→Tb) (cs rs:Nat→Nat) (K:Nat):Prop where
  iv:∀k,k≤K→Iv n m C (st k)
  en:∀k,k < K→Lr n m (st k) (cs k)
  le:∀k,k < K→Ly n m (st k) (cs k) (rs k)
  nx:∀k,k < K→st (k+1)=LU (st k) (rs k) (cs k)
end
section
variable{n m:Nat}{C:Nat→Nat→Int}
variable{st:Nat→Tb}{cs rs:Nat→Nat}{K:Nat}(W:LD n m C st cs rs K)
include W
end
section
variable{n m:Nat}{C:Nat→Nat→Int}
end
open PySem PySem.Spec PyProof.Rows PySem.W
section
variable{prog:OZ}{w:OW}{A:Pb}{R:Result→OS→Prop}
structure LA (I l S:xM) (vs:List OR) (rs:List (List Int)) (j:Nat) (arr:Array OR) (c:Nat) (h:OY):Prop where
  it:h.IsListIter I l j
  ls:h.IsList l vs.toArray
  ro:∀(i:Nat) (r:List Int),rs[i]?=some r→∃v,vs[i]?=some v∧Kl h v r
  sc:h.get? S=some {cls:=.type "list",dict:=none,data:=.seq arr c,slots:=#[]}
end
section
variable{X:Cx}{K:OU}
end
section
variable{X:Cx}{K:OU}{x y:Str}{p p2 pos:Pos}{i j:Nat}{a c:OV}
end
section
variable{X:Cx}{K:OU}{pos p2:Pos}
end
structure Mc (n m:Nat) (s:Tb):Prop where
  d:Bt 1900 s.d
  t:∀i,i≤m→∀j,j≤n→Bt 1900 (s.T i j)
def LP(n m:Nat)(g:Nat→Int)(A:Nat→Nat→Int)(b:Nat→Int)(v i:Nat):Int:=
  if v < n then(if i < m then A i v else if i=m then - g v else 0) else if v≤n+m then(if i=v - n then 1 else 0) else if v=n+m+1 then(if i < m then b i else 0) else 0
section
variable(n m:Nat)(g:Nat→Int)(A:Nat→Nat→Int)(b:Nat→Int)
end
section
variable{n m:Nat}{g:Nat→Int}{A:Nat→Nat→Int}{b:Nat→Int}
end
abbrev TL:=lK × Rat
def rs(f:TL→Rat):List TL→Rat
  | []=>0
  | p::P=>f p+rs f P
def FJ(th:Int)(t:lK):Bool:=t.one==th || t.other==th
def ID(th:Int)(p:TL):Rat:=if FJ th p.1=true then(p.1.top:Rat)*p.2 else 0
def HW(th:Int)(p:TL):Rat:=if FJ th p.1=true then(p.1.bot:Rat)*p.2 else 0
def HS(p:TL):Rat:=(p.1.bot:Rat)*p.2
def EC(p:TL):Rat:=((p.1.top*p.1.worth:Int):Rat)*p.2
structure Ek (W:aS) (P:List TL):Prop where
  ties:P.map (·.1)=W.ties
  nn:∀p∈P,0≤p.2
  once:∀p∈P,HS p≤1
  keep:∀k:Nat,(k:Int) < W.things→rs (ID k) P≤1
  bear:∀k:Nat,(k:Int) < W.things→rs (HW k) P≤(W.pat.getD k 0:Rat)
  ask:rs HS P≤(W.asks:Rat)
structure L5 (W:aS) (V:Rat):Prop where
  ex:∃P,Ek W P∧rs EC P=V
  top:∀P,Ek W P→rs EC P≤V
structure Up (t t':lK) (r:Rat):Prop where
  one:t'.one=t.one
  other:t'.other=t.other
  r0:0≤r
  top:(t'.top:Rat)*r≤(t.top:Rat)
  bot:(t'.bot:Rat)*r≤(t.bot:Rat)
  gain:((t.top*t.worth:Int):Rat)≤((t'.top*t'.worth:Int):Rat)*r
def tj(W:aS)(j:Nat):lK:=W.ties.getD j ⟨0,0,0,0,0⟩
def wT(W:aS):Nat:=W.things.toNat
section
variable{W:aS}
end
section
variable{n m:Nat}{g:Nat→Int}{A:Nat→Nat→Int}{b:Nat→Int}
end
def hG(W:aS)(j:Nat):Int:=(tj W j).worth
def hA(W:aS)(i j:Nat):Int:=if FJ (i:Int) (tj W j)=true then 1 else 0
def hO(_:Nat):Int:=1
abbrev hC(W:aS):Nat→Nat→Int:=LP W.ties.length (wT W) (hG W) (hA W) hO
def hS(c:Int→Bool)(i:Nat):Int:=if c (i:Int)=true then 1 else -1
section
variable{W:aS}(ok:W.Ok){c:Int→Bool}(hc:∀t∈W.ties,c t.one≠c t.other)
include ok hc
end
structure Lx (W:aS) (X Y:Nat→Int):Prop where
  x01:∀j,j < W.ties.length→X j=0∨X j=1
  one:∀i,i < wT W→sm (fun j=>hA W i j*X j) W.ties.length≤1
  y0:∀i,0≤Y i
  paid:∀j,j < W.ties.length→hG W j≤Y (tj W j).one.toNat+Y (tj W j).other.toNat
  eq:sm Y (wT W)=sm (fun j=>hG W j*X j) W.ties.length
inductive Ob where
  /-- a desk: its attributes -/
  | dk (fs:List (Str × OT))
  /-- a tuple of two own lists -/
  | st (xs ys:List OT)
def gH(K:OU)(F:Hp):List (Str × OT)→List (Str × V)→Prop
  | [],gs=>gs=[]
  | p::r,gs=>∃v hs,gs=(p.1,v)::hs∧DA K F p.2 v∧gH K F r hs
theorem gH.mono{K:OU}{F F':Hp}(h:aq F F'):∀{fs:List (Str × OT)} {gs:List (Str × V)},gH K F fs gs→gH K F' fs gs
  | [],_,q=>q
  | _::_,_,⟨v,hs,e,a,b⟩=>⟨v,hs,e,a.mono h,gH.mono h b⟩
theorem gH.len{K:OU}{F:Hp}:∀{fs:List (Str × OT)} {gs:List (Str × V)},gH K F fs gs→gs.length=fs.length
  | [],_,q=>by rw [show _=[] from q];rfl
  | _::_,_,⟨v,hs,e,a,b⟩=>by rw [e];simp [gH.len b]
theorem gH.get{K:OU}{F:Hp}{f:Str}{x:OT}:∀{fs:List (Str × OT)} {gs:List (Str × V)},gH K F fs gs→fs.lookup f=some x→∃v,gs.lookup f=some v∧DA K F x v
  | [],_,_,h=>by cases h
  | (g,y)::r,_,⟨v,hs,e,a,b⟩,h=>by
    subst e
    rw [PX] at h ⊢
    cases c:f==g with
    | true=>rw [c] at h;cases h;exact⟨v,rfl,a⟩
    | false=>rw [c] at h;exact gH.get b h
def mH(f:Str)(x:OT):List (Str × OT)→List (Str × OT)
  | []=>[(f,x)]
  | (g,y)::r=>if g=f then(g,x)::r else(g,y)::mH f x r
theorem gH.put{K:OU}{F:Hp}{f:Str}{x:OT}{v:V}(hx:DA K F x v):∀{fs:List (Str × OT)} {gs:List (Str × V)},gH K F fs gs→gH K F (mH f x fs) (i7 f v gs)
  | [],_,q=>by rw [show _=[] from q];exact⟨v,[],rfl,hx,rfl⟩
  | (g,y)::r,_,⟨u,hs,e,a,b⟩=>by
    subst e
    by_cases c:g=f
    · simp only [mH,i7,if_pos c];exact⟨v,hs,rfl,hx,b⟩
    · simp only [mH,i7,if_neg c];exact⟨u,_,rfl,a,gH.put hx b⟩
theorem gH.none{K:OU}{F:Hp}{f:Str}:∀{fs:List (Str × OT)} {gs:List (Str × V)},gH K F fs gs→fs.lookup f=none→gs.lookup f=none
  | [],_,q,_=>by rw [show _=[] from q];rfl
  | (g,y)::r,_,⟨v,hs,e,a,b⟩,h=>by
    subst e
    rw [PX] at h ⊢
    cases c:f==g with
    | true=>rw [c] at h;cases h
    | false=>rw [c] at h;exact gH.none b h
def iz(K:OU)(C:xM)(F H:Hp):Ob→V→List xM→Prop
  | .dk fs,v,as=>∃p dx gs,v=.ref p∧as=[p]∧F p=none∧H p=some (.ins C dx gs)∧gH K F fs gs
  | .st xs ys,v,as=>∃t l m vs us,v=.ref t∧as=[l,m]∧l≠m∧eV K F t [.ref l,.ref m]∧F l=none∧F m=none∧H l=some (.lst vs)∧H m=some (.lst us)∧aP K F xs vs∧aP K F ys us
def kept:HO→Bool
  | .ins _ _ _=>true
  | .lst _=>true
  | _=>false
theorem iz.at{K:OU}{C:xM}{F H:Hp}{o:Ob}{v:V}{as:List xM}(h:iz K C F H o v as):∀a∈as,F a=none∧∃u,H a=some u∧kept u=true:=by
  cases o with
  | dk fs=>
    obtain⟨p,dx,gs,rfl,rfl,h1,h2,_⟩:=h
    intro a ha
    rw [PJ] at ha
    subst ha
    exact⟨h1,_,h2,rfl⟩
  | st xs ys=>
    obtain⟨t,l,m,vs,us,rfl,rfl,h0,h1,h2,h3,h4,h5,_⟩:=h
    intro a ha
    rcases OP ha with z | z
    · rw [z];exact⟨h2,_,h4,rfl⟩
    · rw [PJ] at z;rw [z];exact⟨h3,_,h5,rfl⟩
theorem iz.mono{K:OU}{C:xM}{F H F' H':Hp}{o:Ob}{v:V}{as:List xM}(h:iz K C F H o v as)(s:aq F F')(hf:∀a∈as,F' a=none)(hh:∀a∈as,H' a=H a):iz K C F' H' o v as:=by
  cases o with
  | dk fs=>
    obtain⟨p,dx,gs,rfl,rfl,h1,h2,h3⟩:=h
    exact⟨p,dx,gs,rfl,rfl,hf p (by simp),by rw [hh p (by simp)];exact h2,h3.mono s⟩
  | st xs ys=>
    obtain⟨t,l,m,vs,us,rfl,rfl,h0,h1,h2,h3,h4,h5,h6,h7⟩:=h
    exact⟨t,l,m,vs,us,rfl,rfl,h0,s.tup h1,hf l (by simp),hf m (by simp),by rw [hh l (by simp)];exact h4,by rw [hh m (by simp)];exact h5,h6.mono s,h7.mono s⟩
inductive Lc where
  | s (i:Nat)
  | it (i k:Nat)
  deriving DecidableEq
def Lc.slot:Lc→Nat
  | .s i=>i
  | .it i _=>i
def mZ(K:OU)(F:Hp)(σ:L2.St):Lc→V→Prop
  | .s i,v=>σ[i]?=some (some v)
  | .it i k,v=>∃l vs,σ[i]?=some (some (.ref l))∧F l=some (.lst vs)∧vs[k]?=some v
theorem mZ.mono{K:OU}{F F':Hp}{σ σ':L2.St}{c:Lc}{v:V}(h:mZ K F σ c v)(s:aq F F')(e:σ'[c.slot]?=σ[c.slot]?):mZ K F' σ' c v:=by
  cases c with
  | s i=>exact e.trans h
  | it i k=>obtain⟨l,vs,h1,h2,h3⟩:=h;exact⟨l,vs,e.trans h1,s _ _ h2,h3⟩
theorem mZ.uniq{K:OU}{F:Hp}{σ:L2.St}{c:Lc}{v w:V}(h:mZ K F σ c v)(h':mZ K F σ c w):v=w:=by
  cases c with
  | s i=>have e1:σ[i]?=_:=h;have e2:σ[i]?=_:=h';rw [e1] at e2;cases e2;rfl
  | it i k=>
    obtain⟨l,us,e1,e2,e3⟩:=h
    obtain⟨l',us',e1',e2',e3'⟩:=h'
    rw [e1] at e1';cases e1'
    rw [e2] at e2';cases e2'
    rw [e3] at e3';cases e3';rfl
abbrev jk:=List (Lc × Ob)
def Fo(ob:jk)(fp:Lc→List xM)(a:xM):Prop:=∃p∈ob,a∈fp p.1
structure aU (K:OU) (C:xM) (F H:Hp) (σ:L2.St) (e:En) (ob:jk) (fp:Lc→List xM):Prop where
  rel:a_ K F H σ e
  obs:∀p∈ob,e[p.1.slot]?=some none∧∃v,mZ K F σ p.1 v∧iz K C F H p.2 v (fp p.1)
  dis:∀p∈ob,∀q∈ob,p.1≠q.1→∀a∈fp p.1,a∉fp q.1
  own:∀a,Fo ob fp a→¬bA σ e H a
structure bw (W:List Nat) (σ:L2.St) (F H:Hp) (e:En) (S:xM→Prop) (σ':L2.St) (F' H':Hp) (e':En) (S':xM→Prop):Prop where
  sf:aq F F'
  dom:∀a,H' a=none→H a=none
  fr:∀a vs,F a=none→H a=some (.lst vs)→¬bA σ e H a→¬S a→F' a=none
  lst:∀a vs,H a=some (.lst vs)→∃vs',H' a=some (.lst vs')
  tmp:∀a o,H a=some o→¬bA σ e H a→¬S a→H' a=some o
  own:∀a,bA σ' e' H' a∨S' a→(bA σ e H a∨S a)∨H a=none
  wr:∀j,j∉W→σ'[j]?=σ[j]?
  fd:∀a (m:DI),F a=none→H a=some m.1→¬bA σ e H a→¬S a→F' a=none
section
variable{K:OU}{C:xM}{W W1 W2:List Nat}{σ σ' σ1 σ2:L2.St}{F H F' H' F1 H1 F2 H2:Hp}{e e' e1 e2:En}{ob ob':jk}{fp fp':Lc→List xM}{S S' S1 S2:xM→Prop}
theorem bw.refl:bw W σ F H e S σ F H e S:=⟨aq.refl _,fun _ h=>h,fun _ _ h _ _ _=>h,fun _ vs h=>⟨vs,h⟩,fun _ _ h _ _=>h,fun _ h=>.inl h,fun _ _=>rfl,fun _ _ h _ _ _=>h⟩
theorem bw.no(x:bw W σ F H e S σ1 F1 H1 e1 S1){a:xM}(n1:¬bA σ e H a)(n2:¬S a){o:HO}(h:H a=some o):¬bA σ1 e1 H1 a∧¬S1 a:=by
  have k:¬(bA σ1 e1 H1 a∨S1 a):=fun z=>(x.own a z).elim (fun z=>z.elim n1 n2) fun z=>by rw [h] at z;cases z
  exact⟨fun z=>k (.inl z),fun z=>k (.inr z)⟩
theorem bw.trans(x:bw W σ F H e S σ1 F1 H1 e1 S1)(y:bw W σ1 F1 H1 e1 S1 σ2 F2 H2 e2 S2):bw W σ F H e S σ2 F2 H2 e2 S2:=
  ⟨x.sf.trans y.sf,fun a h=>x.dom a (y.dom a h),fun a vs h n n1 n2=>let ⟨vs',q⟩:=x.lst a vs n;y.fr a vs' (x.fr a vs h n n1 n2) q (x.no n1 n2 n).1 (x.no n1 n2 n).2,fun a vs h=>let ⟨vs',q⟩:=x.lst a vs h;y.lst a vs' q,
    fun a o h n1 n2=>y.tmp a o (x.tmp a o h n1 n2) (x.no n1 n2 h).1 (x.no n1 n2 h).2,fun a h=>(y.own a h).elim (x.own a) (fun z=>.inr (x.dom a z)),fun j h=>(y.wr j h).trans (x.wr j h),
    fun a m h n n1 n2=>y.fd a m (x.fd a m h n n1 n2) (x.tmp a _ n n1 n2) (x.no n1 n2 n).1 (x.no n1 n2 n).2⟩
theorem bw.mono(x:bw W1 σ F H e S σ' F' H' e' S')(h:∀j,j∈W1→j∈W):bw W σ F H e S σ' F' H' e' S':=⟨x.sf,x.dom,x.fr,x.lst,x.tmp,x.own,fun j n=>x.wr j fun z=>n (h j z),x.fd⟩
theorem aU.at(R:aU K C F H σ e ob fp){a:xM}(h:Fo ob fp a):F a=none∧∃u,H a=some u∧kept u=true:=by
  obtain⟨p,hp,ha⟩:=h
  obtain⟨_,v,_,h2⟩:=R.obs p hp
  exact h2.at a ha
def okO(ob:jk)(e:En):Bool:=ob.all fun p=>match e[p.1.slot]? with
  | some none=>true
  | _=>false
theorem AQ(h:okO ob e=true){p:Lc × Ob}(hp:p∈ob):e[p.1.slot]?=some none:=by
  have:=PY.mp h p hp
  split at this
  · rename_i heq;exact heq
  · cases this
theorem aU.okO(R:aU K C F H σ e ob fp):L2.okO ob e=true:=PY.mpr fun p hp=>by rw [(R.obs p hp).1]
theorem aU.hn(R:aU K C F H σ e ob fp):∀a,Fo ob fp a→H a≠none:=fun a ha=>by
  obtain⟨_,u,h,_⟩:=R.at ha
  rw [h];simp
theorem aU.next(R:aU K C F H σ e ob fp)(x:dY W σ F H e σ' F' H' e')(hw:∀p∈ob,p.1.slot∉W)(he:L2.okO ob e'=true)(R':a_ K F' H' σ' e'):
    bw W σ F H e (Fo ob fp) σ' F' H' e' (Fo ob fp)∧aU K C F' H' σ' e' ob fp:=by
  have hh:∀a,Fo ob fp a→H' a=H a:=fun a ha=>by
    obtain⟨_,u,h1,_⟩:=R.at ha
    rw [h1];exact x.tmp a u h1 (R.own a ha)
  have f0:∀a,Fo ob fp a→F' a=none:=fun a ha=>by
    obtain⟨g1,u,g2,g3⟩:=R.at ha
    cases u with
    | ins c d fs=>exact x.fd a ⟨_,rfl⟩ g1 g2 (R.own a ha)
    | lst vs=>exact x.fr a vs g1 g2 (R.own a ha)
    | _=>cases g3
  refine⟨⟨x.sf,x.dom,fun a vs h1 h2 h3 _=>x.fr a vs h1 h2 h3,x.lst,fun a o h1 h2 _=>x.tmp a o h1 h2,?_,x.wr,fun a m h1 h2 h3 _=>x.fd a m h1 h2 h3⟩,R',fun p hp=>⟨AQ he hp,?_⟩,R.dis,fun a ha z=>?_⟩
  · rintro a (z | z)
    · exact(x.own a z).imp_left .inl
    · exact .inl (.inr z)
  · obtain⟨_,v,h1,h2⟩:=R.obs p hp
    exact⟨v,h1.mono x.sf (x.wr _ (hw p hp)),h2.mono x.sf (fun a ha=>f0 a ⟨p,hp,ha⟩) (fun a ha=>hh a ⟨p,hp,ha⟩)⟩
  · rcases x.own a z with z | z
    · exact R.own a ha z
    · exact R.hn a ha z
end
abbrev EX:=En × jk
abbrev XE:=EX→Option (OT × EX)
abbrev XT:=EX→Option (Bool × EX)
abbrev XA:=EX→Option (List OT × EX)
def iB(K:OU)(C:xM)(f:XE):TE:=fun σ H Q=>∃F x fp r x',aU K C F H σ x.1 x.2 fp∧f x=some (r,x')∧∀F' H' v fp',bw [] σ F H x.1 (Fo x.2 fp) σ F' H' x'.1 (Fo x'.2 fp')→aU K C F' H' σ x'.1 x'.2 fp'→DA K F' r v→Q v H'
def ur(K:OU)(C:xM)(f:XT):TT:=fun σ H Q=>∃F x fp b x',aU K C F H σ x.1 x.2 fp∧f x=some (b,x')∧∀F' H' fp',bw [] σ F H x.1 (Fo x.2 fp) σ F' H' x'.1 (Fo x'.2 fp')→aU K C F' H' σ x'.1 x'.2 fp'→Q b H'
def CG(K:OU)(C:xM)(f:XA):TA:=fun σ H Q=>∃F x fp rs x',aU K C F H σ x.1 x.2 fp∧f x=some (rs,x')∧∀F' H' vs fp',bw [] σ F H x.1 (Fo x.2 fp) σ F' H' x'.1 (Fo x'.2 fp')→aU K C F' H' σ x'.1 x'.2 fp'→aP K F' rs vs→Q vs H'
section
variable{K:OU}{C:xM}{W:List Nat}{σ σ0:L2.St}{F H F' H' F0 H0:Hp}{e e' e0:En}{ob:jk}{fp:Lc→List xM}{S:xM→Prop}
theorem aU.toD{r:Rv}{d:OT}{v:V}{H1:Hp}(Y:bw W σ0 F0 H0 e0 S σ F H e (Fo ob fp))(R:aU K C F H σ e ob fp)(hd:∀a,H1 a=none→H0 a=none)(hn:∀a,Fo ob fp a→H1 a≠none)(A:cD K σ H1 F H e r v)(h:hR r=some d):
    ∃F2,bw W σ0 F0 H0 e0 S σ F2 H e (Fo ob fp)∧aU K C F2 H σ e ob fp∧DA K F2 d v:=by
  cases r with
  | d x=>cases h;exact⟨F,Y,R,A⟩
  | s i=>cases h
  | l xs=>
    cases h
    obtain⟨F2,R2,s2,D2,f2⟩:=A.frozen R.rel
    have nh:∀a o,H0 a=some o→H1 a≠none:=fun a o z w=>by rw [hd a w] at z;cases z
    exact⟨F2,⟨Y.sf.trans s2,Y.dom,fun a vs h1 h2 h3 h4=>f2 a (Y.fr a vs h1 h2 h3 h4) (nh a _ h2),Y.lst,Y.tmp,Y.own,Y.wr,fun a m h1 h2 h3 h4=>f2 a (Y.fd a m h1 h2 h3 h4) (nh a _ h2)⟩,
      ⟨R2,fun p hp=>let ⟨c1,u,c2,c3⟩:=R.obs p hp;⟨c1,u,c2.mono s2 rfl,c3.mono s2 (fun a ha=>f2 a (R.at ⟨p,hp,ha⟩).1 (hn a ⟨p,hp,ha⟩)) fun _ _=>rfl⟩,R.dis,R.own⟩,D2⟩
theorem aU.pure(R:aU K C F H σ e ob fp)(X:dP σ F H e F' H' e')(R':a_ K F' H' σ e')(he:L2.okO ob e'=true):bw [] σ F H e (Fo ob fp) σ F' H' e' (Fo ob fp)∧aU K C F' H' σ e' ob fp:=R.next X.s (fun _ _=>by simp) he R'
theorem aU.pure0(R:aU K C F H σ e ob fp)(X:dP σ F H e F' H' e)(R':a_ K F' H' σ e):bw [] σ F H e (Fo ob fp) σ F' H' e (Fo ob fp)∧aU K C F' H' σ e ob fp:=R.pure X R' R.okO
end
section
variable{X:Cx}{K:OU}{C:xM}{a b:OV}{fe:FE}{fa fb:XE}{ft fu:XT}{fs:XA}{pos:Pos}{es:List OV}{cA:List OV}
def ar(f:FE):XE:=fun x=>(f x.1).bind fun p=>(hR p.1).bind fun d=>if okO x.2 p.2=true then some (d,(p.2,x.2)) else none
theorem ao(he:PE X a (fE K fe)):PE X a (iB K C (ar fe)):=he.mono fun σ H Q h=>by
  obtain⟨F,x,as,r,x',R,hf,q⟩:=h
  unfold ar at hf
  obtain⟨⟨r1,e1⟩,h1,hf⟩:=OK hf
  obtain⟨d,h2,hf⟩:=OK hf
  split at hf
  case isFalse=>cases hf
  case isTrue ho=>
  cases hf
  refine⟨F,x.1,r1,e1,R.rel,h1,fun F' H' v X' R' A'=>?_⟩
  obtain⟨Y,R2⟩:=R.pure X' R' ho
  obtain⟨F2,Y2,R3,D⟩:=aU.toD Y R2 (fun _ z=>z) R.hn A' h2
  exact q F2 H' v as Y2 R3 D
def dM(f:FT):XT:=fun x=>(f x.1).bind fun p=>if okO x.2 p.2=true then some (p.1,(p.2,x.2)) else none
theorem gc{ft:FT}(he:PT X a (fT K ft)):PT X a (ur K C (dM ft)):=he.mono fun σ H Q h=>by
  obtain⟨F,x,as,r,x',R,hf,q⟩:=h
  unfold dM at hf
  obtain⟨⟨r1,e1⟩,h1,hf⟩:=OK hf
  split at hf
  case isFalse=>cases hf
  case isTrue ho=>
  cases hf
  refine⟨F,x.1,r1,e1,R.rel,h1,fun F' H' X' R'=>?_⟩
  obtain⟨Y,R2⟩:=R.pure X' R' ho
  exact q F' H' as Y R2
def ji(g:En→Rv→Rv→Option Rv)(fa fb:XE):XE:=fun x=>(fa x).bind fun p=>(fb p.2).bind fun q=>(g q.2.1 (.d p.1) (.d q.1)).bind fun z=>(hR z).map fun d=>(d,q.2)
theorem uk{r:R2}{g:En→Rv→Rv→Option Rv}(ho:iy K r g){σ:L2.St}{H:Hp}{Q:VK}(h:iB K C (ji g fa fb) σ H Q):HL r (iB K C fa) (iB K C fb) σ H Q:=by
  obtain⟨F,x,as,z,x',R,hf,q⟩:=h
  unfold ji at hf
  obtain⟨⟨y,x1⟩,h1,hf⟩:=OK hf
  obtain⟨⟨y2,x2⟩,h2,hf⟩:=OK hf
  obtain⟨z',h3,hf⟩:=OK hf
  obtain⟨d,h4,hf⟩:=OL hf
  cases hf
  refine⟨F,x,as,y,x1,R,h1,fun F1 H1 v as1 X1 R1 A1=>⟨F1,x1,as1,y2,_,R1,h2,fun F2 H2 u as2 X2 R2 A2=>?_⟩⟩
  refine ho σ H F2 H2 _ (.d y) (.d y2) z' v u Q R2.rel (show DA K F2 y v from A1.mono X2.sf) (show DA K F2 y2 u from A2) h3 fun F3 H3 w X3 R3 A3=>?_
  obtain⟨Y,R4⟩:=R2.pure0 X3 R3
  obtain⟨F4,Y4,R5,D⟩:=aU.toD Y R4 (fun _ z=>z) R2.hn A3 h4
  exact q F4 H3 w _ ((X1.trans X2).trans Y4) R5 D
theorem G6{op:Operator}{r:R2}{g:En→Rv→Rv→Option Rv}(hr:iC X (PR op) r)(ho:iy K r g)(ha:PE X a (iB K C fa))(hb:PE X b (iB K C fb)):PE X (.BinOp a op b pos) (iB K C (ji g fa fb)):=(EI hr ha hb).mono fun _ _ _ h=>uk ho h
theorem G3(hK:X.K=K)(ha:PE X a (iB K C fa))(hb:PE X b (iB K C fb)):PE X (.BinOp a .Add b pos) (iB K C (ji cV fa fb)):=G6 (hK ▸ xY) Em ha hb
theorem Be(hK:X.K=K)(ha:PE X a (iB K C fa))(hb:PE X b (iB K C fb))(hs:oU b):PE X (.Subscript a b pos) (iB K C (ji dI fa fb)):=(EH (hK ▸ IB) ha hb hs).mono fun _ _ _ h=>uk IC h
def boolD:OT→Option Bool
  | .bool b=>some b
  | _=>none
theorem zG{F:Hp}{d:OT}{v:V}{b:Bool}(h:DA K F d v)(q:boolD d=some b):v=.bl b:=by
  unfold boolD at q
  split at q
  · cases q;exact dQ.mp h
  · cases q
def bR(f:XE):XT:=fun x=>(f x).bind fun p=>(boolD p.1).map fun b=>(b,p.2)
theorem sM{σ:L2.St}{H:Hp}{Q:Bool→Hp→Prop}(h:ur K C (bR fa) σ H Q):iB K C fa σ H fun x H'=>∃k,x=.bl k∧Q k H':=by
  obtain⟨F,x,as,b,x1,R,hf,q⟩:=h
  unfold bR at hf
  obtain⟨⟨y,x1'⟩,h1,hf⟩:=OK hf
  obtain⟨b',h3,hf⟩:=OL hf
  cases hf
  exact⟨F,x,as,y,_,R,h1,fun F1 H1 v as1 X1 R1 A1=>⟨_,zG A1 h3,q F1 H1 as1 X1 R1⟩⟩
theorem o_{op:CmpOp}{g:En→Rv→Rv→Option Rv}(h:oE X K op g)(ha:PE X a (iB K C fa))(hb:PE X b (iB K C fb))(hm:QC op b=false):PT X (.Compare a [op] [b] pos) (ur K C (bR (ji g fa fb))):=by
  obtain⟨r,h1,h2⟩:=h.ex
  exact(x9 h1 ha hb hm).mono fun σ H Q h=>by
    obtain⟨F,x,as,z,x2,R,hf,q⟩:=sM h
    exact uk h2 ⟨F,x,as,z,x2,R,hf,q⟩
theorem pd{e:OV}(h:PE X e (iB K C fa))(he:∀whole,isTrue e X.env whole=(do let v ←whole;standAt e.pos;holding [v] (truthy v))):PT X e (ur K C (bR fa)):=(Bc h he).mono fun _ _ _ h=>sM h
def rf(f g:XT):XT:=fun e=>(f e).bind fun p=>if p.1=true then some (true,p.2) else g p.2
def jh(f:XT):XT:=fun e=>(f e).map fun p=>(!p.1,p.2)
theorem Ed{σ:L2.St}{H:Hp}{Q:Bool→Hp→Prop}(h:ur K C (rf ft fu) σ H Q):K0 (ur K C ft) (ur K C fu) σ H Q:=by
  obtain⟨F,e,as,b,e1,R,hf,q⟩:=h
  unfold rf at hf
  obtain⟨⟨x,e1'⟩,h1,hf⟩:=OK hf
  refine⟨F,e,as,x,e1',R,h1,fun F1 H1 as1 X1 R1=>?_⟩
  cases x with
  | false=>exact⟨F1,e1',as1,b,e1,R1,hf,fun F2 H2 as2 X2 R2=>q F2 H2 as2 (X1.trans X2) R2⟩
  | true=>cases hf;exact q F1 H1 as1 X1 R1
theorem yc(ha:PT X a (ur K C ft)):PW X (.BoolOp .Or [a] pos) (ur K C ft):=Bd ha
theorem Bu(ha:PT X a (ur K C ft))(hb:PW X (.BoolOp .Or (b::cA) pos) (ur K C fu)):PW X (.BoolOp .Or (a::b::cA) pos) (ur K C (rf ft fu)):=(EK ha hb).mono fun _ _ _ h=>Ed h
theorem pb(ha:PT X a (ur K C ft)):PT X (.UnaryOp .Not a pos) (ur K C (jh ft)):=(Bb ha).mono fun σ H Q h=>by
  obtain⟨F,e,as,b,e1,R,hf,q⟩:=h
  unfold jh at hf
  obtain⟨⟨x,e1'⟩,h1,hf⟩:=OL hf
  cases hf
  exact⟨F,e,as,x,_,R,h1,fun F1 H1 as1 X1 R1=>q F1 H1 as1 X1 R1⟩
theorem EQ{e:OV}(h:PW X e (ur K C ft)):PT X e (ur K C ft):=h.pt
def xC(t:XT)(f g:XE):XE:=fun e=>(t e).bind fun p=>if p.1=true then f p.2 else g p.2
theorem r6{c:OV}(hc:PT X c (ur K C ft))(ha:PE X a (iB K C fa))(hb:PE X b (iB K C fb)):PE X (.IfExp c a b pos) (iB K C (xC ft fa fb)):=(vo hc ha hb).mono fun σ H Q h=>by
  obtain⟨F,e,as,z,e2,R,hf,q⟩:=h
  unfold xC at hf
  obtain⟨⟨x,e1⟩,h1,hf⟩:=OK hf
  refine⟨F,e,as,x,e1,R,h1,fun F1 H1 as1 X1 R1=>?_⟩
  cases x with
  | true=>exact⟨F1,e1,as1,z,e2,R1,hf,fun F2 H2 w as2 X2 R2 A2=>q F2 H2 w as2 (X1.trans X2) R2 A2⟩
  | false=>exact⟨F1,e1,as1,z,e2,R1,hf,fun F2 H2 w as2 X2 R2 A2=>q F2 H2 w as2 (X1.trans X2) R2 A2⟩
def jg:XA:=fun e=>some ([],e)
def ce(fa:XE)(fs:XA):XA:=fun e=>(fa e).bind fun p=>(fs p.2).map fun q=>(p.1::q.1,q.2)
theorem mK:PA X [] (CG K C jg):=ig.mono fun σ H Q h=>by
  obtain⟨F,e,as,r,e',R,hf,q⟩:=h
  cases hf
  exact q F H [] as bw.refl R aP.nil
theorem k8(ha:PE X a (iB K C fa))(hr:PA X es (CG K C fs))(h:Rl a=false):PA X (a::es) (CG K C (ce fa fs)):=(vm ha hr h).mono fun σ H Q h=>by
  obtain⟨F,e,as,z,e2,R,hf,q⟩:=h
  unfold ce at hf
  obtain⟨⟨x,e1⟩,h1,hf⟩:=OK hf
  obtain⟨⟨xs,e2'⟩,h2,hf⟩:=OL hf
  cases hf
  refine⟨F,e,as,x,e1,R,h1,fun F1 H1 v as1 X1 R1 A1=>⟨F1,e1,as1,xs,_,R1,h2,fun F2 H2 vs as2 X2 R2 A2=>?_⟩⟩
  exact q F2 H2 (v::vs) as2 (X1.trans X2) R2 (.cons (A1.mono X2.sf) A2)
theorem EY{F H0 H:Hp}{σ:L2.St}{e:En}:∀{ds:List OT} {vs:List V},aP K F ds vs→em K σ H0 F H e (ds.map .d) vs
  | [],_,h=>by simp only [aP] at h;exact h
  | d::ds,_,h=>by
    simp only [aP] at h
    obtain⟨x,r,rfl,h1,h2⟩:=h
    exact⟨x,r,rfl,h1,EY h2⟩
def uj(g:En→List Rv→Option Rv)(fs:XA):XE:=fun x=>(fs x).bind fun p=>(g p.2.1 (p.1.map .d)).bind fun z=>(hR z).map fun d=>(d,p.2)
theorem sI{r:List V→Hp→VK→Prop}{g:En→List Rv→Option Rv}(ho:dz K r g){σ:L2.St}{H:Hp}{Q:VK}(h:iB K C (uj g fs) σ H Q):J5 r (CG K C fs) σ H Q:=by
  obtain⟨F,x,as,z,x2,R,hf,q⟩:=h
  unfold uj at hf
  obtain⟨⟨ds,x1⟩,h1,hf⟩:=OK hf
  obtain⟨z',h3,hf⟩:=OK hf
  obtain⟨d,h4,hf⟩:=OL hf
  cases hf
  refine⟨F,x,as,ds,_,R,h1,fun F1 H1 vs as1 X1 R1 A1=>?_⟩
  refine ho σ H F1 H1 _ _ _ vs Q R1.rel (EY A1) h3 fun F3 H3 w X3 R3 A3=>?_
  obtain⟨Y,R4⟩:=R1.pure0 X3 R3
  obtain⟨F4,Y4,R5,D⟩:=aU.toD Y R4 (fun _ z=>z) R1.hn A3 h4
  exact q F4 H3 w _ (X1.trans Y4) R5 D
theorem G4{x:Str}{g:En→List Rv→Option Rv}(h:lh X K x g)(hg:Gl X x)(hm:X.mg x=none)(ha:PA X (a::es) (CG K C fs))(hn:x≠"__name__")(hdb:(x==("__debug__":Str))=false){p:Pos}
    (he:Pd (a::es) X.env=(false,Pf a X.env)::Pd es X.env)(hpl:(Po pos (Pd es X.env)).any (·.1)=false):PE X (.Call (.Name x p) (a::es) [] pos) (iB K C (uj g fs)):=by
  rcases h.ex with ⟨id,r,h1,h2,h3⟩ | ⟨T,r,h1,h2,h3⟩
  · exact(qe h1 hg hm h3 ha hn hdb he hpl).mono fun _ _ _ h=>sI h2 h
  · exact(rY h1 hg hm h3 ha hn hdb he hpl).mono fun _ _ _ h=>sI h2 h
def HA(fa:XE)(lo hi:Option Int):XE:=fun x=>(fa x).bind fun p=>(Ig p.2.1 (.d p.1) lo hi).bind fun z=>(hR z).map fun d=>(d,p.2)
def cf(i:Nat)(f:Str):XE:=fun x=>match x.2.lookup (.s i) with
  | some (.dk fs)=>(fs.lookup f).map fun d=>(d,x)
  | _=>none
theorem cz{c:Lc}{o:Ob}:∀{ob:jk},ob.lookup c=some o→(c,o)∈ob
  | [],h=>by cases h
  | (c0,o0)::r,h=>by
    rw [PX] at h
    cases k:c==c0 with
    | true=>
      rw [k] at h;cases h
      rw [eq_of_beq k];exact QT
    | false=>
      rw [k] at h
      exact PP _ (cz h)
theorem bW{i:Nat}{x f:Str}{p:Pos}(hK:X.K=K)(cl:oT K C)(na:bF K C f)(ho:PE X (.Name x p) (oQ i))(hb:Qr (.Name x p) f X.env (Pf (.Name x p) X.env)=Pf (.Name x p) X.env):PE X (.Attribute (.Name x p) f pos) (iB K C (cf i f)):=(GS ho hb).mono fun σ H Q h=>by
  subst hK
  obtain⟨F,e,as,r,e',R,hf,q⟩:=h
  unfold cf at hf
  split at hf
  case h_2=>cases hf
  case h_1 fs hl=>
  obtain⟨d,h1,hf⟩:=OL hf
  cases hf
  obtain⟨_,v,g1,g2⟩:=R.obs _ (cz hl)
  obtain⟨a,dx,gs,rfl,_,c1,c2,c3⟩:=g2
  obtain⟨u,d1,d2⟩:=c3.get h1
  exact⟨_,g1,a,C,dx,gs,u,rfl,c2,cl,na,d1,q F H u as bw.refl R d2⟩
end
inductive HM where
  | nx (x:EX)
  | bk (x:EX)
  | ct (x:EX)
  | rt (r:OT) (x:EX)
abbrev XS:=EX→Option HM
def nX(K:OU)(C:xM)(W:List Nat)(σ:L2.St)(F H:Hp)(e:En)(S:xM→Prop)(D:qR):HM→Prop
  | .nx x=>∀F' H' σ' fp',bw W σ F H e S σ' F' H' x.1 (Fo x.2 fp')→aU K C F' H' σ' x.1 x.2 fp'→D.nx σ' H'
  | .bk x=>∀F' H' σ' fp',bw W σ F H e S σ' F' H' x.1 (Fo x.2 fp')→aU K C F' H' σ' x.1 x.2 fp'→D.bk σ' H'
  | .ct x=>∀F' H' σ' fp',bw W σ F H e S σ' F' H' x.1 (Fo x.2 fp')→aU K C F' H' σ' x.1 x.2 fp'→D.ct σ' H'
  | .rt r x=>∀F' H' σ' v fp',bw W σ F H e S σ' F' H' x.1 (Fo x.2 fp')→aU K C F' H' σ' x.1 x.2 fp'→DA K F' r v→D.rt v H'
def nW(K:OU)(C:xM)(f:XS)(W:List Nat):TS:=fun D σ H=>∃F x fp fl,aU K C F H σ x.1 x.2 fp∧f x=some fl∧nX K C W σ F H x.1 (Fo x.2 fp) D fl
theorem nX.later{K:OU}{C:xM}{W W1 W2:List Nat}{σ σ1:L2.St}{F H F1 H1:Hp}{e e1:En}{S S1:xM→Prop}{D:qR}{fl:HM}(h:nX K C W σ F H e S D fl)(x:bw W1 σ F H e S σ1 F1 H1 e1 S1)(h1:∀j,j∈W1→j∈W)(h2:∀j,j∈W2→j∈W):nX K C W2 σ1 F1 H1 e1 S1 D fl:=by
  cases fl with
  | nx e'=>exact fun F' H' σ' fp y R=>h F' H' σ' fp ((x.mono h1).trans (y.mono h2)) R
  | bk e'=>exact fun F' H' σ' fp y R=>h F' H' σ' fp ((x.mono h1).trans (y.mono h2)) R
  | ct e'=>exact fun F' H' σ' fp y R=>h F' H' σ' fp ((x.mono h1).trans (y.mono h2)) R
  | rt r e'=>exact fun F' H' σ' v fp y R A=>h F' H' σ' v fp ((x.mono h1).trans (y.mono h2)) R A
section
variable{X:Cx}{K:OU}{C:xM}{W W1 W2:List Nat}{st:Pa}{cA bs cs:List Pa}{f g:XS}{f0:FS}{ft:XT}{fa:XE}{pos:Pos}{a c:OV}
def iP(W:List Nat)(ob:jk):Bool:=ob.all fun p=> !W.contains p.1.slot
theorem p_{ob:jk}(h:iP W ob=true):∀p∈ob,p.1.slot∉W:=fun p hp z=>by
  have:=PY.mp h p hp
  simp [z] at this
def io(W:List Nat)(f:FS):XS:=fun x=>if iP W x.2=true then(f x.1).bind fun fl=>match fl with
  | .nx e=>if okO x.2 e=true then some (.nx (e,x.2)) else none
  | .bk e=>if okO x.2 e=true then some (.bk (e,x.2)) else none
  | .ct e=>if okO x.2 e=true then some (.ct (e,x.2)) else none
  | .rt r e=>(hR r).bind fun d=>if okO x.2 e=true then some (.rt d (e,x.2)) else none else none
theorem C4{D:qR}{σ:L2.St}{H:Hp}(h:nW K C (io W f0) W D σ H):fS K f0 W D σ H:=by
  obtain⟨F,x,fp,fl,R,hf,q⟩:=h
  unfold io at hf
  split at hf
  case isFalse=>cases hf
  case isTrue hw=>
  have hw':=p_ hw
  obtain⟨fl1,h1,hf⟩:=OK hf
  refine⟨F,x.1,fl1,R.rel,h1,?_⟩
  cases fl1 with
  | rt r e=>
    obtain⟨d,h2,hf⟩:=OK hf
    split at hf
    case isFalse=>cases hf
    case isTrue ho=>
    cases hf
    intro F' H' σ' v X' R' A'
    obtain⟨Y,R2⟩:=R.next X' hw' ho R'
    obtain⟨F2,Y2,R3,A⟩:=aU.toD Y R2 (fun _ z=>z) R.hn A' h2
    exact q F2 H' σ' v fp Y2 R3 A
  | nx e=>
    dsimp only at hf
    split at hf
    case isFalse=>cases hf
    case isTrue ho=>
    cases hf
    intro F' H' σ' X' R'
    obtain⟨Y,R2⟩:=R.next X' hw' ho R'
    exact q F' H' σ' fp Y R2
  | bk e=>
    dsimp only at hf
    split at hf
    case isFalse=>cases hf
    case isTrue ho=>
    cases hf
    intro F' H' σ' X' R'
    obtain⟨Y,R2⟩:=R.next X' hw' ho R'
    exact q F' H' σ' fp Y R2
  | ct e=>
    dsimp only at hf
    split at hf
    case isFalse=>cases hf
    case isTrue ho=>
    cases hf
    intro F' H' σ' X' R'
    obtain⟨Y,R2⟩:=R.next X' hw' ho R'
    exact q F' H' σ' fp Y R2
theorem ql(h:PS X st (fS K f0 W)):PS X st (nW K C (io W f0) W):=h.mono fun _ _ _ h=>C4 h
def cg:XS:=fun x=>some (.nx x)
def aZ(f g:XS):XS:=fun x=>(f x).bind fun fl=>match fl with
  | .nx x1=>g x1
  | fl=>some fl
theorem dN:jj X [] (nW K C cg []):=x8.mono fun D σ H h=>by
  obtain⟨F,x,fp,fl,R,hf,q⟩:=h
  cases hf
  exact q F H σ fp bw.refl R
theorem aH(h1:PS X st (nW K C f W1))(h2:jj X cA (nW K C g W2)):jj X (st::cA) (nW K C (aZ f g) (W1++W2)):=(kc h1 h2).mono fun D σ H h=>by
  obtain⟨F,e,fp,fl,R,hf,q⟩:=h
  unfold aZ at hf
  obtain⟨fl1,h1,hf⟩:=OK hf
  have s1:∀j,j∈W1→j∈W1++W2:=fun j h=>Qf.mpr (.inl h)
  have s2:∀j,j∈W2→j∈W1++W2:=fun j h=>Qf.mpr (.inr h)
  refine⟨F,e,fp,fl1,R,h1,?_⟩
  cases fl1 with
  | nx e1=>exact fun F' H' σ' fp' x R'=>⟨F',e1,fp',fl,R',hf,q.later x s1 s2⟩
  | bk e1=>cases hf;exact fun F' H' σ' fp' x R'=>q F' H' σ' fp' (x.mono s1) R'
  | ct e1=>cases hf;exact fun F' H' σ' fp' x R'=>q F' H' σ' fp' (x.mono s1) R'
  | rt r e1=>cases hf;exact fun F' H' σ' v fp' x R' A=>q F' H' σ' v fp' (x.mono s1) R' A
theorem aY(h1:PS X st (nW K C f W)):jj X [st] (nW K C f W):=o5 h1
def ed(ft:XT)(f g:XS):XS:=fun e=>(ft e).bind fun p=>if p.1=true then f p.2 else g p.2
theorem gw(hc:PT X c (ur K C ft))(ha:jj X bs (nW K C f W1))(hb:jj X cs (nW K C g W2)):PS X (.If c bs cs pos) (nW K C (ed ft f g) (W1++W2)):=(EJ hc ha hb).mono fun D σ H h=>by
  obtain⟨F,e,fp,fl,R,hf,q⟩:=h
  unfold ed at hf
  obtain⟨⟨x,e1⟩,h1,hf⟩:=OK hf
  refine⟨F,e,fp,x,e1,R,h1,fun F1 H1 fp1 X1 R1=>?_⟩
  cases x with
  | true=>exact⟨F1,e1,fp1,fl,R1,hf,q.later (W1:=[]) X1 (fun j h=>by cases h) fun j h=>Qf.mpr (.inl h)⟩
  | false=>exact⟨F1,e1,fp1,fl,R1,hf,q.later (W1:=[]) X1 (fun j h=>by cases h) fun j h=>Qf.mpr (.inr h)⟩
def bO(fa:XE):XS:=fun e=>(fa e).map fun p=>.rt p.1 p.2
theorem cH(he:PE X a (iB K C fa)):PS X (.Return (some a) pos) (nW K C (bO fa) []):=(t5 he).mono fun D σ H h=>by
  obtain⟨F,e,fp,fl,R,hf,q⟩:=h
  obtain⟨⟨x,e1⟩,h1,hf⟩:=OL hf
  cases hf
  exact⟨F,e,fp,x,e1,R,h1,fun F1 H1 v fp1 X1 R1 A1=>q F1 H1 σ v fp1 X1 R1 A1⟩
def ud(fa:XE):XS:=fun e=>(fa e).map fun p=>.nx p.2
theorem vw(he:PE X a (iB K C fa))(hs:QO a none pos.line X.env=pure false):PS X (.Expr a pos) (nW K C (ud fa) []):=(x6 he hs).mono fun D σ H h=>by
  obtain⟨F,e,fp,fl,R,hf,q⟩:=h
  obtain⟨⟨x,e1⟩,h1,hf⟩:=OL hf
  cases hf
  exact⟨F,e,fp,x,e1,R,h1,fun F1 H1 v fp1 X1 R1 A1=>q F1 H1 σ fp1 X1 R1⟩
def gE(i:Nat)(fa:XE):XS:=fun x=>(fa x).bind fun p=>if iP [i] p.2.2=true then some (.nx (p.2.1.set i (some (.d p.1)),p.2.2)) else none
theorem aU.setD{F H:Hp}{σ:L2.St}{e:En}{ob:jk}{fp:Lc→List xM}{i:Nat}{x:OT}{v:V}(R:aU K C F H σ e ob fp)(h:DA K F x v)(hw:iP [i] ob=true):
    bw [i] σ F H e (Fo ob fp) (σ.set i (some v)) F H (e.set i (some (.d x))) (Fo ob fp)∧aU K C F H (σ.set i (some v)) (e.set i (some (.d x))) ob fp:=by
  have hw':=p_ hw
  obtain⟨R2,o2⟩:=R.rel.setD i h
  have ne:∀p∈ob,i≠p.1.slot:=fun p hp z=>hw' p hp (by rw [z];simp)
  refine⟨⟨aq.refl _,fun _ z=>z,fun _ _ z _ _ _=>z,fun _ vs z=>⟨vs,z⟩,fun _ _ z _ _=>z,fun a z=>.inl (z.imp_left (o2 a)),fun j n=>Pm (fun z=>n (by simp [z])),fun _ _ z _ _ _=>z⟩,R2,fun p hp=>?_,R.dis,fun a ha z=>R.own a ha (o2 a z)⟩
  obtain⟨c1,u,c2,c3⟩:=R.obs p hp
  exact⟨by rw [Pm (ne p hp)];exact c1,u,c2.mono (aq.refl _) (Pm (ne p hp)),c3⟩
theorem mM{i:Nat}{x:Str}{pos':Pos}(hN:X.N.Nodup)(hi:X.N[i]?=some x)(hx:zx X.env.scope x)(he:PE X a (iB K C fa))(hs:QO a (some (.Name x pos')) pos.line X.env=pure false)(hf:X.fn x=true∨X.env.scope.names.lookup x=some .local):
    PS X (.Assign [.Name x pos'] a pos) (nW K C (gE i fa) [i]):=(qi hN hi hx he hs hf).mono fun D σ H h=>by
  obtain⟨F,e,fp,fl,R,hf,q⟩:=h
  unfold gE at hf
  obtain⟨⟨r,e1⟩,h1,hf⟩:=OK hf
  split at hf
  case isFalse=>cases hf
  case isTrue hw=>
  cases hf
  refine⟨F,e,fp,r,e1,R,h1,fun F1 H1 v fp1 X1 R1 A1=>?_⟩
  obtain⟨Y,R2⟩:=R1.setD A1 hw
  exact q F1 H1 _ fp1 ((X1.mono (fun j h=>by cases h)).trans Y) R2
def qH(c:Lc)(o:Ob)(ob:jk):jk:=ob.map fun p=>if p.1=c then(p.1,o) else p
theorem ka{c:Lc}{o:Ob}{ob:jk}{p:Lc × Ob}:p∈qH c o ob↔ ∃q∈ob,p.1=q.1∧(if q.1=c then p.2=o else p.2=q.2):=by
  unfold qH
  rw [Rt]
  constructor
  · rintro⟨q,h1,h2⟩
    refine⟨q,h1,?_⟩
    split at h2
    · rename_i z;subst h2;exact⟨rfl,by rw [if_pos z]⟩
    · rename_i z;subst h2;exact⟨rfl,by rw [if_neg z]⟩
  · rintro⟨q,h1,h2,h3⟩
    refine⟨q,h1,?_⟩
    obtain⟨p1,p2⟩:=p
    dsimp only at h2 h3
    split at h3
    · rename_i z;rw [if_pos z,h3,h2]
    · rename_i z;rw [if_neg z,h2,h3]
theorem aU.put{F H F' H':Hp}{σ:L2.St}{e:En}{ob:jk}{fp:Lc→List xM}{c:Lc}{o:Ob}{fs:List xM}(R:aU K C F H σ e ob fp)(hc:∃u,(c,u)∈ob)(sF:aq F F')(sm:aq F' H')(dom:∀a,H' a=none→H a=none)(lst:∀a vs,H a=some (.lst vs)→∃vs',H' a=some (.lst vs'))
    (tmp:∀a u,H a=some u→a∉fp c→H' a=some u)(fr:∀a,F a=none→(∃u,H a=some u∧(kept u=true∨zz u=true))→a∉fp c→F' a=none)(hfs:∀a∈fs,a∈fp c∨H a=none)(ho:∀v,mZ K F σ c v→(∃u,iz K C F H u v (fp c))→iz K C F' H' o v fs):
    bw [] σ F H e (Fo ob fp) σ F' H' e (Fo (qH c o ob) fun d=>if d=c then fs else fp d)∧aU K C F' H' σ e (qH c o ob) fun d=>if d=c then fs else fp d:=by
  obtain⟨u,hu⟩:=hc
  have nc:∀a,bA σ e H a→a∉fp c:=fun a h z=>R.own a ⟨_,hu,z⟩ h
  obtain⟨R2,o2⟩:=R.rel.keep sF sm (fun a h=>by
    obtain⟨i,hi⟩:=h
    obtain⟨h1,vs,h2⟩:=R.rel.fpAt hi
    exact fr a h1 ⟨_,h2,.inl rfl⟩ (nc a ⟨i,hi⟩)) (fun a o h q=>tmp a o q (nc a h))
  have sub:∀a,Fo (qH c o ob) (fun d=>if d=c then fs else fp d) a→Fo ob fp a∨H a=none:=by
    rintro a ⟨p,hp,ha⟩
    obtain⟨q,h1,h2,h3⟩:=ka.mp hp
    rw [h2] at ha
    by_cases z:q.1=c
    · simp only [if_pos z] at ha
      rcases hfs a ha with w | w
      · exact .inl ⟨_,hu,w⟩
      · exact .inr w
    · simp only [if_neg z] at ha
      exact .inl ⟨q,h1,ha⟩
  refine⟨⟨sF,dom,fun a vs h1 h2 _ h4=>fr a h1 ⟨_,h2,.inl rfl⟩ fun z=>h4 ⟨_,hu,z⟩,lst,fun a u h1 _ h3=>tmp a u h1 fun z=>h3 ⟨_,hu,z⟩,fun a z=>?_,fun _ _=>rfl,fun a m h1 h2 _ h4=>fr a h1 ⟨_,h2,.inr m.2⟩ fun z=>h4 ⟨_,hu,z⟩⟩,R2,fun p hp=>?_,?_,fun a ha z=>?_⟩
  · rcases z with z | z
    · exact .inl (.inl ((o2 a).mp z))
    · exact(sub a z).imp_left .inr
  · obtain⟨q,h1,h2,h3⟩:=ka.mp hp
    obtain⟨c1,v,c2,c3⟩:=R.obs q h1
    rw [h2]
    refine⟨c1,v,c2.mono sF rfl,?_⟩
    by_cases z:q.1=c
    · rw [if_pos z] at h3
      simp only [if_pos z,h3]
      exact ho v (by rw [←z];exact c2) ⟨_,by rw [←z];exact c3⟩
    · rw [if_neg z] at h3
      simp only [if_neg z,h3]
      have nq:∀a∈fp q.1,a∉fp c:=fun a ha=>R.dis q h1 (c,u) hu z a ha
      refine c3.mono sF (fun a ha=>?_) fun a ha=>?_
      · obtain⟨g1,w,g2,g3⟩:=R.at ⟨q,h1,ha⟩
        exact fr a g1 ⟨w,g2,.inl g3⟩ (nq a ha)
      · obtain⟨g1,w,g2,g3⟩:=R.at ⟨q,h1,ha⟩
        rw [g2];exact tmp a w g2 (nq a ha)
  · intro p hp q hq hne a ha
    obtain⟨p0,h1,h2,_⟩:=ka.mp hp
    obtain⟨q0,g1,g2,_⟩:=ka.mp hq
    rw [h2] at ha hne
    rw [g2] at hne
    rw [g2]
    by_cases z:p0.1=c
    · simp only [if_pos z] at ha
      have z2:q0.1≠c:=fun z2=>hne (z.trans z2.symm)
      simp only [if_neg z2]
      intro w
      rcases hfs a ha with k | k
      · exact R.dis q0 g1 (c,u) hu z2 a w k
      · exact R.hn a ⟨q0,g1,w⟩ k
    · simp only [if_neg z] at ha
      by_cases z2:q0.1=c
      · simp only [if_pos z2]
        intro w
        rcases hfs a w with k | k
        · exact R.dis p0 h1 (c,u) hu z a ha k
        · exact R.hn a ⟨p0,h1,ha⟩ k
      · simp only [if_neg z2]
        exact R.dis p0 h1 q0 g1 hne a ha
  · rcases sub a ha with w | w
    · exact R.own a w ((o2 a).mp z)
    · exact R.rel.ownH a ((o2 a).mp z) w
def gD(i:Nat)(f:Str)(fa:XE):XS:=fun x=>(fa x).bind fun p=>match p.2.2.lookup (.s i) with
  | some (.dk fs)=>if fs.length < 900 then some (.nx (p.2.1,qH (.s i) (.dk (mH f p.1 fs)) p.2.2)) else none
  | _=>none
theorem iD{i:Nat}{x f:Str}{p pos':Pos}(hK:X.K=K)(cl:oT K C)(na:bF K C f)(ho:PE X (.Name x p) (oQ i))(hv:PE X a (iB K C fa))(hs:QO a (some (.Attribute (.Name x p) f pos')) pos.line X.env=pure false):
    PS X (.Assign [.Attribute (.Name x p) f pos'] a pos) (nW K C (gD i f fa) []):=(GY ho hv hs).mono fun D σ H h=>by
  subst hK
  obtain⟨F,e,fp,fl,R,hf,q⟩:=h
  unfold gD at hf
  obtain⟨⟨r,e1⟩,h1,hf⟩:=OK hf
  dsimp only at hf
  split at hf
  case h_2=>cases hf
  case h_1 fs hl=>
  split at hf
  case isFalse=>cases hf
  case isTrue hlen=>
  cases hf
  refine⟨F,e,fp,r,e1,R,h1,fun F1 H1 v fp1 X1 R1 A1=>?_⟩
  have hm:=cz hl
  obtain⟨_,u,g1,g2⟩:=R1.obs _ hm
  have g2':=g2
  obtain⟨a,dx,gs,rfl,ha,c1,c2,c3⟩:=g2
  refine⟨_,g1,a,C,dx,gs,rfl,c2,cl,na,by rw [c3.len];lia,?_⟩
  dsimp only at ha
  obtain⟨Y,R2⟩:=R1.put (c:=.s i) (o:=.dk (mH f r fs)) (fs:=[a]) (F':=F1) (H':=bE H1 a (.ins C dx (i7 f v gs))) ⟨_,hm⟩ (aq.refl _)
    (fun b o z=>by
      have:b≠a:=fun w=>by rw [w,c1] at z;cases z
      rw [ax this];exact R1.rel.sm b o z)
    (fun b z=>by
      by_cases w:b=a
      · rw [w,av] at z;cases z
      · rw [ax w] at z;exact z)
    (fun b vs z=>⟨vs,by
      have:b≠a:=fun w=>by rw [w,c2] at z;cases z
      rw [ax this];exact z⟩)
    (fun b u z w=>by
      rw [ha] at w
      have:b≠a:=fun k=>w (by simp [k])
      rw [ax this];exact z)
    (fun b z _ _=>z) (fun b hb=>.inl (by rw [ha];exact hb))
    (fun v' g1' _=>by
      have g1:σ[i]?=_:=g1
      have g1':σ[i]?=_:=g1'
      rw [g1] at g1';cases g1'
      exact⟨a,dx,_,rfl,rfl,c1,av,c3.put A1⟩)
  exact q F1 _ σ _ (X1.trans Y) R2
end
section
variable{K:OU}{C:xM}{F H F' H':Hp}{σ:L2.St}{e:En}{ob ob':jk}{fp fp':Lc→List xM}
theorem aU.putM(R:aU K C F H σ e ob fp)(T:Lc→Prop)(hT:∀c,T c→∃u,(c,u)∈ob)(hob:∀p∈ob',∃q∈ob,p.1=q.1∧(¬T q.1→p.2=q.2))(hfp:∀c,¬T c→fp' c=fp c)(sF:aq F F')(sm:aq F' H')(dom:∀a,H' a=none→H a=none)(lst:∀a vs,H a=some (.lst vs)→∃vs',H' a=some (.lst vs'))
    (tmp:∀a u,H a=some u→(∀c,T c→a∉fp c)→H' a=some u)(fr:∀a,F a=none→(∃u,H a=some u∧(kept u=true∨zz u=true))→(∀c,T c→a∉fp c)→F' a=none)(hfs:∀c,T c→∀a∈fp' c,(∃d,T d∧a∈fp d)∨H a=none)
    (hdis:∀c d,T c→T d→c≠d→∀a∈fp' c,a∉fp' d)(ho:∀p∈ob',T p.1→∀v,mZ K F σ p.1 v→iz K C F' H' p.2 v (fp' p.1)):
    bw [] σ F H e (Fo ob fp) σ F' H' e (Fo ob' fp')∧aU K C F' H' σ e ob' fp':=by
  have nc:∀a,bA σ e H a→∀c,T c→a∉fp c:=fun a h c hc z=>let ⟨u,hu⟩:=hT c hc;R.own a ⟨_,hu,z⟩ h
  have nf:∀a,¬Fo ob fp a→∀c,T c→a∉fp c:=fun a h c hc z=>let ⟨u,hu⟩:=hT c hc;h ⟨_,hu,z⟩
  obtain⟨R2,o2⟩:=R.rel.keep sF sm (fun a h=>by
    obtain⟨i,hi⟩:=h
    obtain⟨h1,vs,h2⟩:=R.rel.fpAt hi
    exact fr a h1 ⟨_,h2,.inl rfl⟩ (nc a ⟨i,hi⟩)) (fun a o h q=>tmp a o q (nc a h))
  have sub:∀a,Fo ob' fp' a→Fo ob fp a∨H a=none:=by
    rintro a ⟨p,hp,ha⟩
    obtain⟨q,h1,h2,h3⟩:=hob p hp
    rw [h2] at ha
    by_cases z:T q.1
    · rcases hfs _ z a ha with ⟨d,w,k⟩ | w
      · obtain⟨u,hu⟩:=hT d w
        exact .inl ⟨_,hu,k⟩
      · exact .inr w
    · rw [hfp _ z] at ha
      exact .inl ⟨q,h1,ha⟩
  have dj:∀q∈ob,¬T q.1→∀a∈fp q.1,∀c,T c→a∉fp c:=fun q hq nT a ha c hc=>by
    obtain⟨u,hu⟩:=hT c hc
    exact R.dis q hq _ hu (fun z=>nT (by rw [z];exact hc)) a ha
  refine⟨⟨sF,dom,fun a vs h1 h2 _ h4=>fr a h1 ⟨_,h2,.inl rfl⟩ (nf a h4),lst,fun a u h1 _ h3=>tmp a u h1 (nf a h3),fun a z=>?_,fun _ _=>rfl,fun a m h1 h2 _ h4=>fr a h1 ⟨_,h2,.inr m.2⟩ (nf a h4)⟩,R2,fun p hp=>?_,?_,fun a ha z=>?_⟩
  · rcases z with z | z
    · exact .inl (.inl ((o2 a).mp z))
    · exact(sub a z).imp_left .inr
  · obtain⟨q,h1,h2,h3⟩:=hob p hp
    obtain⟨c1,v,c2,c3⟩:=R.obs q h1
    rw [h2]
    refine⟨c1,v,c2.mono sF rfl,?_⟩
    by_cases z:T q.1
    · have:=ho p hp (by rw [h2];exact z) v (by rw [h2];exact c2)
      rw [h2] at this
      exact this
    · rw [h3 z,hfp _ z]
      have nq:=dj q h1 z
      refine c3.mono sF (fun a ha=>?_) fun a ha=>?_
      · obtain⟨g1,w,g2,g3⟩:=R.at ⟨q,h1,ha⟩
        exact fr a g1 ⟨w,g2,.inl g3⟩ (nq a ha)
      · obtain⟨g1,w,g2,g3⟩:=R.at ⟨q,h1,ha⟩
        rw [g2];exact tmp a w g2 (nq a ha)
  · intro p hp q hq hne a ha
    obtain⟨p0,h1,h2,_⟩:=hob p hp
    obtain⟨q0,g1,g2,_⟩:=hob q hq
    rw [h2] at ha hne
    rw [g2] at hne
    rw [g2]
    by_cases z:T p0.1
    · by_cases z2:T q0.1
      · exact hdis _ _ z z2 hne a ha
      · rw [hfp _ z2]
        intro w
        rcases hfs _ z a ha with ⟨d,k,k2⟩ | k
        · exact dj q0 g1 z2 a w d k k2
        · exact R.hn a ⟨q0,g1,w⟩ k
    · rw [hfp _ z] at ha
      by_cases z2:T q0.1
      · intro w
        rcases hfs _ z2 a w with ⟨d,k,k2⟩ | k
        · exact dj p0 h1 z a ha d k k2
        · exact R.hn a ⟨p0,h1,ha⟩ k
      · rw [hfp _ z2]
        exact R.dis p0 h1 q0 g1 hne a ha
  · rcases sub a ha with w | w
    · exact R.own a w ((o2 a).mp z)
    · exact R.rel.ownH a ((o2 a).mp z) w
theorem aU.beside(R:aU K C F H σ e ob fp)(sF:aq F F')(sm:aq F' H')(dom:∀a,H' a=none→H a=none)(lst:∀a vs,H a=some (.lst vs)→∃vs',H' a=some (.lst vs'))(tmp:∀a u,H a=some u→H' a=some u)
    (fr:∀a,F a=none→(∃u,H a=some u∧(kept u=true∨zz u=true))→F' a=none):bw [] σ F H e (Fo ob fp) σ F' H' e (Fo ob fp)∧aU K C F' H' σ e ob fp:=
  R.putM (ob':=ob) (fp':=fp) (fun _=>False) (fun _ h=>h.elim) (fun p hp=>⟨p,hp,rfl,fun _=>rfl⟩) (fun _ _=>rfl) sF sm dom lst (fun a u h _=>tmp a u h) (fun a h1 h2 _=>fr a h1 h2) (fun _ h=>h.elim) (fun _ _ h=>h.elim) (fun _ _ h=>h.elim)
theorem rV{ds:List OT}{i:Nat}{s:Sv}(h:((ds.map Sv.d).map some)[i]?=some (some s)):∃x,ds[i]?=some x∧s=.d x:=by
  rw [PF,PF] at h
  cases q:ds[i]? with
  | none=>rw [q] at h;cases h
  | some x=>rw [q] at h;cases h;exact⟨x,rfl,rfl⟩
theorem my{ds:List OT}{σ:L2.St}{a:xM}:¬bA σ ((ds.map Sv.d).map some) H a:=by
  rintro⟨i,⟨xs,h,_⟩ | ⟨xss,_,_,h,_⟩⟩
  · obtain⟨x,_,z⟩:=rV h;cases z
  · obtain⟨x,_,z⟩:=rV h;cases z
theorem Js(s:aq F H){ds:List OT}{vs:List V}(h:aP K F ds vs):a_ K F H (vs.map some) ((ds.map Sv.d).map some):=by
  refine⟨s,by simp [h.len],fun i x hx=>?_,fun i xs hx=>?_,fun i xss hx=>?_,fun i j a hi _=>absurd ⟨i,hi⟩ my⟩
  · obtain⟨y,h1,h2⟩:=rV hx
    cases h2
    obtain⟨v,g1,g2⟩:=h.get h1
    exact⟨v,by rw [PF,g1];rfl,g2⟩
  · obtain⟨x,_,z⟩:=rV hx;cases z
  · obtain⟨x,_,z⟩:=rV hx;cases z
end
section
variable{X:Cx}{K:OU}{C:xM}{fs:XA}{a:OV}{es:List OV}{pos:Pos}{σ:L2.St}{H:Hp}
def oR(n:Nat)(m:FM)(fs:XA):XE:=fun x=>(fs x).bind fun p=>(m (p.1.map .d)).bind fun z=>if p.1.length=n∧p6 z.1=true then(hR z.1).map fun d=>(d,p.2) else none
theorem yu{n:Nat}{m:FM}{Q:VK}{E:XK}(h:iB K C (oR n m fs) σ H Q):qL (el K n m) [] E (CG K C fs) σ H Q:=by
  obtain⟨F,x,fp,z,x',R,hf,q⟩:=h
  unfold oR at hf
  obtain⟨⟨ds,x1⟩,h1,hf⟩:=OK hf
  obtain⟨⟨r,as'⟩,h2,hf⟩:=OK hf
  split at hf
  case isFalse=>cases hf
  case isTrue hc=>
  obtain⟨d,h3,hf⟩:=OL hf
  cases hf
  refine⟨F,x,fp,ds,_,R,h1,fun F1 H1 vs fp1 X1 R1 A1=>?_⟩
  show el K n m (vs++[]) H1 Q E
  rw [Qo]
  have hn:noS r:=by
    have:=hc.2
    cases r with
    | s i=>cases this
    | _=>trivial
  refine⟨by rw [←A1.len];exact hc.1,F1,ds.map .d,r,as',Js R1.rel.sm A1,fun i xss z=>(by obtain⟨x,_,z⟩:=rV z;cases z),h2,hn,fun F' H' v X3 R3 A3=>?_⟩
  have stay:∀a u,H1 a=some u→H' a=some u:=fun a u hu=>X3.tmp a u hu my
  obtain⟨Y,R4⟩:=R1.beside X3.sf R3.sm X3.dom X3.lst stay fun a g1 ⟨u,g2,g3⟩=>by
    by_cases k:zz u=true
    · exact X3.fd a ⟨u,k⟩ g1 g2 my
    · rcases g3 with g3 | g3
      · cases u with
        | lst vs=>exact X3.fr a vs g1 g2 my
        | ins c d fs=>exact absurd rfl k
        | _=>cases g3
      · exact absurd g3 k
  have ow:∀a,bA σ x1.1 H' a→H1 a≠none:=fun a z=>by
    rcases Y.own a (.inl z) with (w | w) | w
    · exact R1.rel.ownH a w
    · exact R1.hn a w
    · intro _
      exact R4.own a |> fun _=>by
        obtain⟨i,hi⟩:=z
        have:=(R1.rel.keep X3.sf R3.sm (fun a ⟨i,h⟩=>by
          obtain⟨c1,vs,c2⟩:=R1.rel.fpAt h
          exact X3.fr a vs c1 c2 my) fun a o _ h=>stay a o h).2 a
        exact R1.rel.ownH a (this.mp ⟨i,hi⟩) w
  obtain⟨F4,Y4,R5,D⟩:=aU.toD Y R4 (fun _ z=>z) R1.hn (A3.noS hn ow) h3
  exact q F4 H' v _ (X1.trans Y4) R5 D
theorem G5{x:Str}{st:Pa}{f:xM}{fd:Pj}{ps:List Str}{k n:Nat}{m:FM}{p:Pos}(h:ee X.K X.mg x st f fd ps)(G:aF X.prog X.w X.K X.mg X.base bS k f fd ps (el K n m))(hr:bG k X.A)(ha:PA X (a::es) (CG K C fs))
    (hg:Gl X x)(hdb:(x==("__debug__":Str))=false)(he:Pd (a::es) X.env=(false,Pf a X.env)::Pd es X.env)(hpl:(Po pos (Pd es X.env)).any (·.1)=false):
    PE X (.Call (.Name x p) (a::es) [] pos) (iB K C (oR n m fs)):=(Dv h G hr ha hg hdb he hpl).mono fun _ _ _ h=>yu h
end
abbrev Ar:=Lc ⊕ OT
abbrev XR:=EX→Option (List Ar × EX)
def lg(K:OU)(F:Hp)(σ:L2.St):List Ar→List V→Prop
  | [],vs=>vs=[]
  | .inl c::r,vs=>∃v ws,vs=v::ws∧mZ K F σ c v∧lg K F σ r ws
  | .inr d::r,vs=>∃v ws,vs=v::ws∧DA K F d v∧lg K F σ r ws
section
variable{K:OU}{C:xM}{F H F' H':Hp}{σ:L2.St}{e:En}{ob ob' oc:jk}{fp fp':Lc→List xM}
theorem lg.len:∀{rs:List Ar} {vs:List V},lg K F σ rs vs→rs.length=vs.length
  | [],vs,h=>by rw [show vs=[] from h];rfl
  | .inl c::r,_,⟨v,ws,e,h1,h2⟩=>by rw [e];simp [lg.len h2]
  | .inr d::r,_,⟨v,ws,e,h1,h2⟩=>by rw [e];simp [lg.len h2]
theorem lg.d:∀{rs:List Ar} {vs:List V} {k:Nat} {d:OT},lg K F σ rs vs→rs[k]?=some (.inr d)→∃v,vs[k]?=some v∧DA K F d v
  | [],_,k,d,_,h=>by simp at h
  | .inl c::r,_,k,d,⟨v,ws,e,h1,h2⟩,h=>by
    subst e
    cases k with
    | zero=>simp at h
    | succ k=>simpa using lg.d h2 (by simpa using h)
  | .inr d'::r,_,k,d,⟨v,ws,e,h1,h2⟩,h=>by
    subst e
    cases k with
    | zero=>simp at h;subst h;exact⟨v,rfl,h1⟩
    | succ k=>simpa using lg.d h2 (by simpa using h)
theorem lg.c:∀{rs:List Ar} {vs:List V} {k:Nat} {c:Lc},lg K F σ rs vs→rs[k]?=some (.inl c)→∃v,vs[k]?=some v∧mZ K F σ c v
  | [],_,k,d,_,h=>by simp at h
  | .inl c'::r,_,k,c,⟨v,ws,e,h1,h2⟩,h=>by
    subst e
    cases k with
    | zero=>simp at h;subst h;exact⟨v,rfl,h1⟩
    | succ k=>simpa using lg.c h2 (by simpa using h)
  | .inr d'::r,_,k,c,⟨v,ws,e,h1,h2⟩,h=>by
    subst e
    cases k with
    | zero=>simp at h
    | succ k=>simpa using lg.c h2 (by simpa using h)
end
def ku(rs:List Ar):En:=rs.map fun r=>match r with
  | .inl _=>none
  | .inr d=>some (.d d)
def mz(ob:jk):Nat→List Ar→Option jk
  | _,[]=>some []
  | k,.inl c::r=>(ob.lookup c).bind fun o=>(mz ob (k+1) r).map ((Lc.s k,o)::·)
  | k,.inr _::r=>mz ob (k+1) r
def iU(oc:jk):Nat→List Ar→jk→Option jk
  | _,[],ob=>some ob
  | k,.inl c::r,ob=>(oc.lookup (.s k)).bind fun o=>iU oc (k+1) r (qH c o ob)
  | k,.inr _::r,ob=>iU oc (k+1) r ob
def locs:List Ar→List Lc
  | []=>[]
  | .inl c::r=>c::locs r
  | .inr _::r=>locs r
theorem i4{c:Lc}:∀{rs:List Ar},c∈locs rs↔ ∃k:Nat,rs[k]?=some (Sum.inl c)
  | []=>by simp [locs]
  | .inl d::r=>by
    simp only [locs,QI,i4 (rs:=r)]
    constructor
    · rintro(rfl | ⟨k,h⟩)
      · exact⟨0,rfl⟩
      · exact⟨k+1,by simpa using h⟩
    · rintro⟨k,h⟩
      cases k with
      | zero=>simp at h;exact .inl h.symm
      | succ k=>exact .inr ⟨k,by simpa using h⟩
  | .inr d::r=>by
    simp only [locs,i4 (rs:=r)]
    constructor
    · rintro⟨k,h⟩
      exact⟨k+1,by simpa using h⟩
    · rintro⟨k,h⟩
      cases k with
      | zero=>simp at h
      | succ k=>exact⟨k,by simpa using h⟩
theorem kJ{c:Lc}:∀{rs:List Ar} {k j:Nat},(locs rs).Nodup→rs[k]?=some (.inl c)→rs[j]?=some (.inl c)→k=j
  | [],k,j,_,h,_=>by simp at h
  | .inl d::r,k,j,hn,h1,h2=>by
    simp only [locs,Rj] at hn
    cases k with
    | zero=>
      simp at h1;subst h1
      cases j with
      | zero=>rfl
      | succ j=>exact absurd (i4.mpr ⟨j,by simpa using h2⟩) hn.1
    | succ k=>
      cases j with
      | zero=>simp at h2;subst h2;exact absurd (i4.mpr ⟨k,by simpa using h1⟩) hn.1
      | succ j=>exact congrArg (· +1) (kJ hn.2 (by simpa using h1) (by simpa using h2))
  | .inr d::r,k,j,hn,h1,h2=>by
    cases k with
    | zero=>simp at h1
    | succ k=>
      cases j with
      | zero=>simp at h2
      | succ j=>exact congrArg (· +1) (kJ (rs:=r) hn (by simpa using h1) (by simpa using h2))
theorem i6{ob:jk}{p:Lc × Ob}:∀{rs:List Ar} {k:Nat} {oc:jk},mz ob k rs=some oc→p∈oc→∃j c,p.1=.s (k+j)∧rs[j]?=some (.inl c)∧ob.lookup c=some p.2
  | [],k,oc,h,hp=>by cases h;cases hp
  | .inl c::r,k,oc,h,hp=>by
    obtain⟨o,h1,h⟩:=OK h
    obtain⟨oc',h2,rfl⟩:=OL h
    rcases OP hp with rfl | hp
    · exact⟨0,c,rfl,rfl,h1⟩
    · obtain⟨j,d,g1,g2,g3⟩:=i6 h2 hp
      exact⟨j+1,d,by rw [g1];congr 1;lia,by simpa using g2,g3⟩
  | .inr d::r,k,oc,h,hp=>by
    obtain⟨j,d,g1,g2,g3⟩:=i6 (rs:=r) (k:=k+1) h hp
    exact⟨j+1,d,by rw [g1];congr 1;lia,by simpa using g2,g3⟩
theorem p8{ob:jk}:∀{rs:List Ar} {k j:Nat} {oc:jk} {c:Lc},mz ob k rs=some oc→rs[j]?=some (.inl c)→∃o,ob.lookup c=some o∧(Lc.s (k+j),o)∈oc
  | [],k,j,oc,c,h,hj=>by simp at hj
  | .inl d::r,k,j,oc,c,h,hj=>by
    obtain⟨o,h1,h⟩:=OK h
    obtain⟨oc',h2,rfl⟩:=OL h
    cases j with
    | zero=>simp at hj;subst hj;exact⟨o,h1,QT⟩
    | succ j=>
      obtain⟨o',g1,g2⟩:=p8 (j:=j) h2 (by simpa using hj)
      refine⟨o',g1,PP _ ?_⟩
      rw [show k+(j+1)=k+1+j by lia];exact g2
  | .inr d::r,k,j,oc,c,h,hj=>by
    cases j with
    | zero=>simp at hj
    | succ j=>
      obtain⟨o',g1,g2⟩:=p8 (rs:=r) (k:=k+1) (j:=j) h (by simpa using hj)
      refine⟨o',g1,?_⟩
      rw [show k+(j+1)=k+1+j by lia];exact g2
theorem kr{oc:jk}{p:Lc × Ob}:∀{rs:List Ar} {k:Nat} {ob ob':jk},iU oc k rs ob=some ob'→p∈ob'→∃q∈ob,p.1=q.1∧((p.1∉locs rs∧p.2=q.2)∨∃j,rs[j]?=some (.inl p.1)∧oc.lookup (.s (k+j))=some p.2)
  | [],k,ob,ob',h,hp=>by cases h;exact⟨p,hp,rfl,.inl ⟨by simp [locs],rfl⟩⟩
  | .inl c::r,k,ob,ob',h,hp=>by
    obtain⟨o,h1,h⟩:=OK h
    obtain⟨q,g1,g2,g3⟩:=kr h hp
    obtain⟨q',d1,d2,d3⟩:=ka.mp g1
    refine⟨q',d1,g2.trans d2,?_⟩
    rcases g3 with ⟨g3,g4⟩ | ⟨j,g3,g4⟩
    · by_cases z:q'.1=c
      · rw [if_pos z] at d3
        refine .inr ⟨0,?_,?_⟩
        · rw [g2,d2,z];rfl
        · rw [g4,d3];exact h1
      · rw [if_neg z] at d3
        refine .inl ⟨?_,g4.trans d3⟩
        simp only [locs,QI]
        rintro(w | w)
        · exact z (by rw [←d2,←g2];exact w)
        · exact g3 w
    · exact .inr ⟨j+1,by simpa using g3,by rw [show k+(j+1)=k+1+j by lia];exact g4⟩
  | .inr d::r,k,ob,ob',h,hp=>by
    obtain⟨q,g1,g2,g3⟩:=kr (rs:=r) (k:=k+1) h hp
    refine⟨q,g1,g2,?_⟩
    rcases g3 with ⟨g3,g4⟩ | ⟨j,g3,g4⟩
    · exact .inl ⟨by simpa [locs] using g3,g4⟩
    · exact .inr ⟨j+1,by simpa using g3,by rw [show k+(j+1)=k+1+j by lia];exact g4⟩
abbrev MX:=EX→Option (OT × jk)
def ww(e:En):Bool:=e.all fun s=>match s with
  | some (.l _)=>false
  | some (.n _)=>false
  | _=>true
theorem cP{σ:L2.St}{H:Hp}{e:En}(h:ww e=true){a:xM}:¬bA σ e H a:=by
  rintro⟨i,⟨xs,z,_⟩ | ⟨xss,_,_,z,_⟩⟩
  · have:=PY.mp h _ (OQ z)
    cases this
  · have:=PY.mp h _ (OQ z)
    cases this
def kR(K:OU)(C:xM)(n:Nat)(m:MX):Sp:=fun vs H Q _=>vs.length=n∧∃F x fp r oc,aU K C F H (vs.map some) x.1 x.2 fp∧ww x.1=true∧m x=some (r,oc)∧
  ∀F' H' v fp',bw [] (vs.map some) F H x.1 (Fo x.2 fp) (vs.map some) F' H' x.1 (Fo oc fp')→aU K C F' H' (vs.map some) x.1 oc fp'→DA K F' r v→Q v H'
def zX(K:OU)(C:xM)(f:XR):TA:=fun σ H Q=>∃F x fp rs x',aU K C F H σ x.1 x.2 fp∧f x=some (rs,x')∧∀F' H' vs fp',bw [] σ F H x.1 (Fo x.2 fp) σ F' H' x'.1 (Fo x'.2 fp')→aU K C F' H' σ x'.1 x'.2 fp'→lg K F' σ rs vs→Q vs H'
def bu(n:Nat)(m:MX)(fs:XR):XE:=fun x=>(fs x).bind fun p=>(mz p.2.2 0 p.1).bind fun oc=>(m (ku p.1,oc)).bind fun z=>(iU z.2 0 p.1 p.2.2).bind fun ob'=>if p.1.length=n∧(locs p.1).Nodup then some (z.1,(p.2.1,ob')) else none
section
variable{K:OU}{C:xM}{σ:L2.St}{H:Hp}{fs:XR}
theorem jt{rs:List Ar}{k:Nat}{s:Option Sv}(h:(ku rs)[k]?=some s):(∃c,rs[k]?=some (.inl c)∧s=none)∨∃d,rs[k]?=some (.inr d)∧s=some (.d d):=by
  unfold ku at h
  rw [PF] at h
  cases q:rs[k]? with
  | none=>rw [q] at h;cases h
  | some r=>
    rw [q] at h
    cases r with
    | inl c=>cases h;exact .inl ⟨c,rfl,rfl⟩
    | inr d=>cases h;exact .inr ⟨d,rfl,rfl⟩
theorem cx(rs:List Ar):ww (ku rs)=true:=by
  refine PY.mpr fun s hs=>?_
  obtain⟨k,hk⟩:=Sf hs
  rcases jt hk with ⟨c,_,rfl⟩ | ⟨d,_,rfl⟩<;>rfl
theorem sG{n:Nat}{m:MX}{Q:VK}{E:XK}(h:iB K C (bu n m fs) σ H Q):qL (kR K C n m) [] E (zX K C fs) σ H Q:=by
  obtain⟨F,x,fp,z,x',R,hf,q⟩:=h
  unfold bu at hf
  obtain⟨⟨rs,x1⟩,h1,hf⟩:=OK hf
  obtain⟨oc,h2,hf⟩:=OK hf
  obtain⟨⟨r,oc'⟩,h3,hf⟩:=OK hf
  obtain⟨ob',h4,hf⟩:=OK hf
  dsimp only at hf
  split at hf
  case isFalse=>cases hf
  case isTrue hc=>
  cases hf
  obtain⟨hlen,hnd⟩:=hc
  refine⟨F,x,fp,rs,x1,R,h1,fun F1 H1 vs fp1 X1 R1 A1=>?_⟩
  show kR K C n m (vs++[]) H1 Q E
  rw [Qo]
  dsimp only at h2 h3 h4 hlen hnd
  let fc:Lc→List xM:=fun d=>match d with
    | .s k=>match rs[k]? with
      | some (.inl c)=>fp1 c
      | _=>[]
    | _=>[]
  have fcs:∀(k:Nat) (c:Lc),rs[k]?=some (Sum.inl c)→fc (.s k)=fp1 c:=fun k c hk=>by show(match rs[k]? with | some (.inl c)=>fp1 c | _=>[])=_;rw [hk]
  have lk:∀{k:Nat} {c:Lc},rs[k]?=some (Sum.inl c)→∃o,(c,o)∈x1.2∧(Lc.s k,o)∈oc:=fun{k c} hk=>by
    obtain⟨o,g1,g2⟩:=p8 h2 hk
    exact⟨o,cz g1,by simpa using g2⟩
  have foc:∀a,Fo oc fc a↔ ∃(k:Nat) (c:Lc),rs[k]?=some (Sum.inl c)∧a∈fp1 c:=fun a=>by
    constructor
    · rintro⟨p,hp,ha⟩
      obtain⟨j,c,g1,g2,g3⟩:=i6 h2 hp
      rw [g1,QY,fcs j c g2] at ha
      exact⟨j,c,g2,ha⟩
    · rintro⟨k,c,hk,ha⟩
      obtain⟨o,g1,g2⟩:=lk hk
      exact⟨_,g2,by rw [fcs k c hk];exact ha⟩
  have Rc:aU K C F1 H1 (vs.map some) (ku rs) oc fc:=by
    refine⟨⟨R1.rel.sm,by unfold ku;simp [A1.len],fun i y hy=>?_,fun i ys hy=>?_,fun i ys hy=>?_,fun i j a hi _=>absurd ⟨i,hi⟩ (cP (cx rs))⟩,fun p hp=>?_,fun p hp p' hp' hne a ha=>?_,fun a _=>cP (cx rs)⟩
    · rcases jt hy with ⟨_,_,w⟩ | ⟨d,hk,w⟩
      · cases w
      · cases w
        obtain⟨v,g1,g2⟩:=A1.d hk
        exact⟨v,by rw [PF,g1];rfl,g2⟩
    · rcases jt hy with ⟨_,_,w⟩ | ⟨_,_,w⟩<;>cases w
    · rcases jt hy with ⟨_,_,w⟩ | ⟨_,_,w⟩<;>cases w
    · obtain⟨j,c,g1,g2,g3⟩:=i6 h2 hp
      rw [QY] at g1
      rw [g1]
      refine⟨by show(ku rs)[j]?=_;unfold ku;rw [PF,g2];rfl,?_⟩
      obtain⟨v,c1,c2⟩:=A1.c g2
      obtain⟨_,v',d1,d2⟩:=R1.obs _ (cz g3)
      refine⟨v,by show(vs.map some)[j]?=_;rw [PF,c1];rfl,?_⟩
      rw [fcs j c g2]
      have:v=v':=c2.uniq d1
      rw [this];exact d2
    · obtain⟨j,c,g1,g2,g3⟩:=i6 h2 hp
      obtain⟨j',c',g1',g2',g3'⟩:=i6 h2 hp'
      rw [QY] at g1 g1'
      rw [g1,fcs j c g2] at ha
      rw [g1',fcs j' c' g2']
      refine R1.dis _ (cz g3) _ (cz g3') (fun w=>hne ?_) a ha
      dsimp only at w
      subst w
      rw [g1,g1',kJ hnd g2 g2']
  refine⟨by rw [←A1.len];exact hlen,F1,(ku rs,oc),fc,z,oc',Rc,cx rs,h3,fun F' H' v fq X3 R3 A3=>?_⟩
  have nO:∀a,¬bA (vs.map some) (ku rs) H1 a:=fun a=>cP (cx rs)
  let T:Lc→Prop:=fun c=>c∈locs rs
  have Tk:∀c,T c→∃k:Nat,rs[k]?=some (Sum.inl c):=fun c h=>i4.mp h
  have kT:∀{k:Nat} {c:Lc},rs[k]?=some (Sum.inl c)→T c:=fun h=>i4.mpr ⟨_,h⟩
  classical
  let fn:Lc→List xM:=fun c=>if h:T c then(if (∃o,(Lc.s (Tk c h).choose,o)∈oc') then fq (.s (Tk c h).choose) else []) else fp1 c
  have fnk:∀(k:Nat) (c:Lc),rs[k]?=some (Sum.inl c)→(∃o,(Lc.s k,o)∈oc')→fn c=fq (.s k):=fun k c hk ho=>by
    have hT:=kT hk
    have:(Tk c hT).choose=k:=kJ hnd (Tk c hT).choose_spec hk
    show(if h:T c then _ else _)=_
    rw [dif_pos hT,this,if_pos ho]
  have fnm:∀c,T c→∀a∈fn c,∃k:Nat,rs[k]?=some (Sum.inl c)∧(∃o,(Lc.s k,o)∈oc')∧a∈fq (.s k):=fun c hT a ha=>by
    have:fn c=if (∃o,(Lc.s (Tk c hT).choose,o)∈oc') then fq (.s (Tk c hT).choose) else []:=dif_pos hT
    rw [this] at ha
    split at ha
    · rename_i ho;exact⟨_,(Tk c hT).choose_spec,ho,ha⟩
    · cases ha
  have toS:∀a,(∀c,T c→a∉fp1 c)→¬Fo oc fc a:=fun a h z=>by
    obtain⟨k,c,g1,g2⟩:=(foc a).mp z
    exact h c (kT g1) g2
  obtain⟨Y,R4⟩:=R1.putM (ob':=ob') (fp':=fn) (F':=F') (H':=H') T (fun c hT=>by
      obtain⟨k,hk⟩:=Tk c hT
      obtain⟨o,g1,_⟩:=lk hk
      exact⟨o,g1⟩) (fun p hp=>by
      obtain⟨q',g1,g2,g3⟩:=kr h4 hp
      refine⟨q',g1,g2,fun nT=>?_⟩
      rcases g3 with ⟨_,g3⟩ | ⟨j,g3,_⟩
      · exact g3
      · exact absurd (kT g3) (by rw [g2];exact nT)) (fun c nT=>dif_neg nT) X3.sf R3.rel.sm X3.dom X3.lst (fun a u hu hn=>X3.tmp a u hu (nO a) (toS a hn))
    (fun a g1 ⟨u,g2,g3⟩ hn=>by
      by_cases k:zz u=true
      · exact X3.fd a ⟨u,k⟩ g1 g2 (nO a) (toS a hn)
      · rcases g3 with g3 | g3
        · cases u with
          | lst us=>exact X3.fr a us g1 g2 (nO a) (toS a hn)
          | ins c d fs=>exact absurd rfl k
          | _=>cases g3
        · exact absurd g3 k)
    (fun c hT a ha=>by
      obtain⟨k,hk,⟨o,ho⟩,ha⟩:=fnm c hT a ha
      rcases X3.own a (.inr ⟨_,ho,ha⟩) with (w | w) | w
      · exact absurd w (nO a)
      · obtain⟨k',c',g1,g2⟩:=(foc a).mp w
        exact .inl ⟨c',kT g1,g2⟩
      · exact .inr w)
    (fun c d hT hT' hne a ha hb=>by
      obtain⟨k,hk,⟨o,ho⟩,ha⟩:=fnm c hT a ha
      obtain⟨j,hj,⟨o',ho'⟩,hb⟩:=fnm d hT' a hb
      refine R3.dis _ ho _ ho' (fun w=>hne ?_) a ha hb
      have:k=j:=Lc.s.inj w
      subst this
      rw [hk] at hj
      exact Sum.inl.inj (Qq hj))
    (fun p hp hT w hw=>by
      obtain⟨q',g1,g2,g3⟩:=kr h4 hp
      rcases g3 with ⟨g3,_⟩ | ⟨j,g3,g4⟩
      · exact absurd hT g3
      · rw [QY] at g4
        have hm:=cz g4
        rw [fnk j _ g3 ⟨_,hm⟩]
        obtain⟨_,v',d1,d2⟩:=R3.obs _ hm
        have d1:(vs.map some)[j]?=some (some v'):=d1
        obtain⟨v2,c1,c2⟩:=A1.c g3
        rw [PF,c1] at d1
        cases d1
        have:=c2.uniq hw
        rw [←this];exact d2)
  exact q F' H' v fn (X1.trans Y) R4 A3
end
section
variable{X:Cx}{K:OU}{C:xM}{fa:XE}{fs:XR}{a:OV}{es:List OV}{pos:Pos}
def bY:XR:=fun x=>some ([],x)
def bv(fa:XE)(fs:XR):XR:=fun x=>(fa x).bind fun p=>(fs p.2).map fun q=>(.inr p.1::q.1,q.2)
def nJ(i:Nat)(fs:XR):XR:=fun x=>if (x.2.lookup (.s i)).isSome=true then(fs x).map fun q=>(.inl (.s i)::q.1,q.2) else none
theorem eO:PA X [] (zX K C bY):=ig.mono fun σ H Q h=>by
  obtain⟨F,e,fp,r,e',R,hf,q⟩:=h
  cases hf
  exact q F H [] fp bw.refl R rfl
theorem gf(ha:PE X a (iB K C fa))(hr:PA X es (zX K C fs))(h:Rl a=false):PA X (a::es) (zX K C (bv fa fs)):=(vm ha hr h).mono fun σ H Q h=>by
  obtain⟨F,e,fp,z,e2,R,hf,q⟩:=h
  unfold bv at hf
  obtain⟨⟨x,e1⟩,h1,hf⟩:=OK hf
  obtain⟨⟨xs,e2'⟩,h2,hf⟩:=OL hf
  cases hf
  refine⟨F,e,fp,x,e1,R,h1,fun F1 H1 v fp1 X1 R1 A1=>⟨F1,e1,fp1,xs,_,R1,h2,fun F2 H2 vs fp2 X2 R2 A2=>?_⟩⟩
  exact q F2 H2 (v::vs) fp2 (X1.trans X2) R2 ⟨v,vs,rfl,A1.mono X2.sf,A2⟩
theorem vz{i:Nat}(ha:PE X a (oQ i))(hr:PA X es (zX K C fs))(h:Rl a=false):PA X (a::es) (zX K C (nJ i fs)):=(vm ha hr h).mono fun σ H Q h=>by
  obtain⟨F,e,fp,z,e2,R,hf,q⟩:=h
  unfold nJ at hf
  split at hf
  case isFalse=>cases hf
  case isTrue hs=>
  obtain⟨⟨xs,e2'⟩,h2,hf⟩:=OL hf
  cases hf
  obtain⟨o,ho⟩:=Option.isSome_iff_exists.mp hs
  obtain⟨_,v,g1,_⟩:=R.obs _ (cz ho)
  refine⟨v,g1,F,e,fp,xs,_,R,h2,fun F2 H2 vs fp2 X2 R2 A2=>?_⟩
  exact q F2 H2 (v::vs) fp2 X2 R2 ⟨v,vs,rfl,g1,A2⟩
theorem mI{x:Str}{st:Pa}{f:xM}{fd:Pj}{ps:List Str}{k n:Nat}{m:MX}{p:Pos}(h:ee X.K X.mg x st f fd ps)(G:aF X.prog X.w X.K X.mg X.base bS k f fd ps (kR K C n m))(hr:bG k X.A)(ha:PA X (a::es) (zX K C fs))
    (hg:Gl X x)(hdb:(x==("__debug__":Str))=false)(he:Pd (a::es) X.env=(false,Pf a X.env)::Pd es X.env)(hpl:(Po pos (Pd es X.env)).any (·.1)=false):
    PE X (.Call (.Name x p) (a::es) [] pos) (iB K C (bu n m fs)):=(Dv h G hr ha hg hdb he hpl).mono fun _ _ _ h=>sG h
end
def dZ(n k:Nat)(W:List Nat)(f:XS):MX:=fun x=>if x.1.length=n∧(x.2.all fun p=>decide (p.1.slot < n))=true then(f (x.1++Pi k none,x.2)).bind fun fl=>match fl with
    | .rt r y=>if iP W (y.2.filter fun p=>decide (p.1.slot < n))=true∧okO (y.2.filter fun p=>decide (p.1.slot < n)) x.1=true then some (r,y.2.filter fun p=>decide (p.1.slot < n)) else none
    | .nx y=>if iP W (y.2.filter fun p=>decide (p.1.slot < n))=true∧okO (y.2.filter fun p=>decide (p.1.slot < n)) x.1=true then some (.none,y.2.filter fun p=>decide (p.1.slot < n)) else none
    | _=>none
  else none
section
variable{P:OZ}{w:OW}{K:OU}{C:xM}{mg:Str→Option OR}{base:OY}
theorem EV{F F' H H':Hp}{σ:L2.St}{e:En}(R:a_ K F H σ e)(h:ww e=true)(s:aq F F')(sm:aq F' H'):a_ K F' H' σ e:=by
  have no:∀{i:Nat} {s:Sv},e[i]?=some (some s)→(∃x,s=.d x):=fun{i s} z=>by
    have:=PY.mp h _ (OQ z)
    cases s with
    | d x=>exact⟨x,rfl⟩
    | l x=>cases this
    | n x=>cases this
  refine⟨sm,R.len,fun i x hx=>let ⟨v,h1,h2⟩:=R.dat i x hx;⟨v,h1,h2.mono s⟩,fun i xs hx=>?_,fun i xs hx=>?_,fun i j a hi _=>absurd ⟨i,hi⟩ (cP h)⟩
  · obtain⟨x,z⟩:=no hx;cases z
  · obtain⟨x,z⟩:=no hx;cases z
theorem rh.okY{x qual:Str}{st:Pa}{f:xM}{fd:Pj}{N ps:List Str}{k n k0:Nat}{W:List Nat}{fb:XS}(hF:rh K x qual st f fd)(S:aw N ps (ag st))(hn:ps.length=n)(hN:N.length=n+k0)
    (hb:∀(cdv:OR) (A:Pb) (outer:List Env) (s:OS) (H:Hp) (E:XK),bG k (A.deeper (envOfC qual (ag st) s.heap.objs.size f cdv))→jj (tu bS P w K mg base N qual (ag st) f cdv A outer s H E).nox (cm st) (nW K C fb W)):
    aF P w K mg base bS (k+1) f fd ps (kR K C n (dZ n k0 W fb)):=by
  refine hF.ok S (fun vs H Q E q=>?_) fun cdv A outer s H vs Q E hr hsp=>⟨_,hb cdv A outer s H E hr,?_⟩
  · rw [hn];exact q.1
  · obtain⟨hl,F,x,fp,r,oc,R,hd,hm,q⟩:=hsp
    unfold dZ at hm
    split at hm
    case isFalse=>cases hm
    case isTrue hc=>
    obtain⟨la,lo⟩:=hc
    obtain⟨fl,h1,hm⟩:=OK hm
    have hst:gG N vs=vs.map some++Pi k0 none:=by unfold gG;rw [hN,hl];congr 2;lia
    rw [hst]
    have lt:∀p∈x.2,p.1.slot < n:=fun p hp=>by simpa using PY.mp lo p hp
    have gv:∀j,j < n→(vs.map some++Pi k0 none)[j]?=(vs.map some)[j]?:=fun j hj=>QQ (by rw [Px,hl];exact hj)
    have ge:∀j,j < n→(x.1++Pi k0 none)[j]?=x.1[j]?:=fun j hj=>QQ (by rw [la];exact hj)
    have lcp:∀{F:Hp} {σ σ':L2.St} {c:Lc} {v:V},mZ K F σ c v→σ'[c.slot]?=σ[c.slot]?→mZ K F σ' c v:=fun h e=>h.mono (aq.refl _) e
    have Rp:aU K C F H (vs.map some++Pi k0 none) (x.1++Pi k0 none) x.2 fp:=⟨R.rel.pad,fun p hp=>by
      obtain⟨c1,v,c2,c3⟩:=R.obs p hp
      exact⟨by rw [ge _ (lt p hp)];exact c1,v,lcp c2 (gv _ (lt p hp)),c3⟩,R.dis,fun a ha z=>R.own a ha (dq.mp z)⟩
    have key:∀{y:EX},iP W (y.2.filter fun p=>decide (p.1.slot < n))=true∧okO (y.2.filter fun p=>decide (p.1.slot < n)) x.1=true→∀F' H' σ' fp',bw W (vs.map some++Pi k0 none) F H (x.1++Pi k0 none) (Fo x.2 fp) σ' F' H' y.1 (Fo y.2 fp')→aU K C F' H' σ' y.1 y.2 fp'→
        bw [] (vs.map some) F H x.1 (Fo x.2 fp) (vs.map some) F' H' x.1 (Fo (y.2.filter fun p=>decide (p.1.slot < n)) fp')∧aU K C F' H' (vs.map some) x.1 (y.2.filter fun p=>decide (p.1.slot < n)) fp':=by
      intro y hk F' H' σ' fp' X' R'
      have sub:∀a,Fo (y.2.filter fun p=>decide (p.1.slot < n)) fp' a→Fo y.2 fp' a:=fun a ⟨p,hp,ha⟩=>⟨p,(QJ.mp hp).1,ha⟩
      refine⟨⟨X'.sf,X'.dom,fun a us h1 h2 hn=>X'.fr a us h1 h2 fun z=>hn (dq.mp z),X'.lst,fun a o ha hn=>X'.tmp a o ha fun z=>hn (dq.mp z),fun a z=>?_,fun _ _=>rfl,fun a m h1 h2 hn=>X'.fd a m h1 h2 fun z=>hn (dq.mp z)⟩,
        ⟨EV R.rel hd X'.sf R'.rel.sm,fun p hp=>?_,fun p hp q hq=>R'.dis p (QJ.mp hp).1 q (QJ.mp hq).1,fun a ha=>cP hd⟩⟩
      · rcases z with z | z
        · exact absurd z (cP hd)
        · exact(X'.own a (.inr (sub a z))).imp_left fun w=>w.imp_left dq.mp
      · have hp':=QJ.mp hp
        have hs:p.1.slot < n:=by simpa using hp'.2
        obtain⟨_,v,c2,c3⟩:=R'.obs p hp'.1
        exact⟨AQ hk.2 hp,v,lcp c2 (by rw [X'.wr _ (p_ hk.1 p hp),gv _ hs]),c3⟩
    refine⟨F,(x.1++Pi k0 none,x.2),fp,fl,Rp,h1,?_⟩
    cases fl with
    | bk e'=>cases hm
    | ct e'=>cases hm
    | nx y=>
      dsimp only at hm
      split at hm
      case isFalse=>cases hm
      case isTrue hk=>
      cases hm
      intro F' H' σ' fp' X' R'
      obtain⟨X2,R2⟩:=key hk F' H' σ' fp' X' R'
      exact q F' H' .non fp' X2 R2 ((fB (K:=K) (F:=F')).mpr rfl)
    | rt r0 y=>
      dsimp only at hm
      split at hm
      case isFalse=>cases hm
      case isTrue hk=>
      cases hm
      intro F' H' σ' v fp' X' R' A'
      obtain⟨X2,R2⟩:=key hk F' H' σ' fp' X' R'
      exact q F' H' v fp' X2 R2 A'
end
section
variable{X:Cx}{K:OU}{C:xM}{W W1 W2:List Nat}{f:XS}{ft:XT}{pos:Pos}
noncomputable def qU(W1:List Nat)(g:FG)(f:XS):List OT→EX→Option HM
  | [],x=>some (.nx x)
  | d::r,x=>if iP W1 x.2=true then(g d x.1).bind fun e1=>if okO x.2 e1=true then(f (e1,x.2)).bind fun fl=>match fl with
      | .nx x2=>qU W1 g f r x2
      | .ct x2=>qU W1 g f r x2
      | .bk x2=>some (.nx x2)
      | .rt v x2=>some (.rt v x2)
    else none else none
noncomputable def iE(W1:List Nat)(fi:FI)(g:FG)(f:XS):XS:=fun x=>(fi x.1).bind fun p=>if p.2.1.isEmpty=true∧okO x.2 p.2.2=true then qU W1 g f p.1 (p.2.2,x.2) else none
inductive Fb (K:OU) (C:xM) (F1:Hp) (P:EX→Prop) (G:L2.St→Hp→Hp→En→(xM→Prop)→Prop) (σ:L2.St) (H:Hp):Prop
  | mk {F:Hp} {x:EX} {fp:Lc→List xM} (R:aU K C F H σ x.1 x.2 fp) (sF:aq F1 F) (hf:P x) (q:G σ F H x.1 (Fo x.2 fp)):Fb K C F1 P G σ H
theorem o8{tg iter:OV}{body:List Pa}{fi:FI}{gg:FG}(hp:PassesOwn (Pe X.prog X.w) X.A X.env X.xe)(hc:X.calm=true)(hi:PI X tg iter (fI K fi))(hg:PG X tg (fG K gg W1))(hb:jj X body (nW K C f W2))(hs:∀x,RM iter X.env x=pure x):
    PS X (.For tg iter body [] pos) (nW K C (iE W1 fi gg f) (W1++W2)):=(A_ hp hc hi hg hb hs).mono fun D σ0 H0 hh=>by
  obtain⟨F0,x0,fp0,fl,R0,hf,q0⟩:=hh
  unfold iE at hf
  obtain⟨⟨items,own,e1⟩,hI,hf⟩:=OK hf
  dsimp only at hf
  split at hf
  case isFalse=>cases hf
  case isTrue ho=>
  obtain⟨ho,hok⟩:=ho
  have ho:=List.isEmpty_iff.mp ho
  subst ho
  refine⟨F0,x0.1,items,[],e1,R0.rel,hI,fun J F1 H1 X1 R1 kp ok=>?_⟩
  have s1:∀j,j∈W1→j∈W1++W2:=fun j h=>Qf.mpr (.inl h)
  have s2:∀j,j∈W2→j∈W1++W2:=fun j h=>Qf.mpr (.inr h)
  have s0:∀j,j∈([]:List Nat)→j∈W1++W2:=fun j h=>by cases h
  obtain⟨Y1,R1X⟩:=R0.pure X1 R1 hok
  have q1:nX K C (W1++W2) σ0 F1 H1 e1 (Fo x0.2 fp0) D fl:=q0.later (W1:=[]) Y1 s0 fun j h=>h
  refine⟨fun k m σ H=>m=items.length - k∧k≤items.length∧Fb K C F1 (fun x=>qU W1 gg f (items.drop k) x=some fl) (fun σ F H e S=>nX K C (W1++W2) σ F H e S D fl) σ H,
    ⟨items.length,by simp,QP _,.mk (x:=(e1,x0.2)) R1X (aq.refl _) hf q1⟩,?_⟩
  rintro k m σ H ⟨rfl,hk,⟨R,sF,hf,q⟩⟩
  rename_i F x fp
  obtain⟨go,stop,yld⟩:=ok F H sF R.rel.sm (fun p hp=>by cases hp)
  by_cases hlt:k < items.length
  · have hd:items.drop k=items[k]::items.drop (k+1):=Tq hlt
    rw [hd] at hf
    unfold qU at hf
    split at hf
    case isFalse=>cases hf
    case isTrue hw=>
    obtain⟨e2,h2,hf⟩:=OK hf
    split at hf
    case isFalse=>cases hf
    case isTrue hok2=>
    obtain⟨fl2,h3,hf⟩:=OK hf
    refine .inr ⟨go k hlt,Fb K C F1 (fun x=>qU W1 gg f (items.drop (k+1)) x=some fl) (fun σ F H e S=>nX K C (W1++W2) σ F H e S D fl),
      fun σ' H' r=>⟨items.length - (k+1),by lia,rfl,hlt,r⟩,fun y H' hy=>?_⟩
    obtain⟨F',sH,sF',sm',fz,hx⟩:=yld k items[k] y H' (QA hlt) hy
    obtain⟨R',X'⟩:=R.rel.step sH sF' sm' fz
    obtain⟨Y2,R2X⟩:=R.pure0 X' R'
    refine⟨F',_,items[k],e2,R',hx,h2,fun σ2 x2 R2=>?_⟩
    obtain⟨Y3,R3X⟩:=R2X.next x2 (p_ hw) hok2 R2
    refine⟨F',(e2,x.2),fp,fl2,R3X,h3,?_⟩
    have q2:nX K C (W1++W2) σ2 F' H' e2 (Fo x.2 fp) D fl:=(q.later (W1:=[]) (W2:=W1++W2) Y2 s0 fun j h=>h).later Y3 s1 fun j h=>h
    cases fl2 with
    | nx x3=>exact fun F3 H3 σ3 fp3 y3 R3=>.mk R3 (sF.trans (sF'.trans y3.sf)) hf (q2.later y3 s2 fun j h=>h)
    | ct x3=>exact fun F3 H3 σ3 fp3 y3 R3=>.mk R3 (sF.trans (sF'.trans y3.sf)) hf (q2.later y3 s2 fun j h=>h)
    | bk x3=>
      cases hf
      exact fun F3 H3 σ3 fp3 y3 R3=>q2 F3 H3 σ3 fp3 (y3.mono s2) R3
    | rt r x3=>
      cases hf
      exact fun F3 H3 σ3 v fp3 y3 R3 A3=>q2 F3 H3 σ3 v fp3 (y3.mono s2) R3 A3
  · have hd:items.drop k=[]:=Tr (by lia)
    rw [hd] at hf
    cases hf
    exact .inl ⟨stop k (by lia),q F H σ fp bw.refl R⟩
end
section
variable{X:Cx}{K:OU}{a b:OV}{es:List OV}{fa fb:FE}{fs:FA}{pos apos cpos p2:Pos}{lo hi:Option OV}
def Jp:V→Option Int→Option Int→Hp→VK→Prop:=fun x lo hi H Q=>∃y,x=.str y∧y.length≤Pk∧Q (.str (QG y lo hi)) H
theorem qd{v:OR}{o:Option Int}(h:IsPart v o):∃l:Option (Int × Tok),v=partValue l∧o=l.map (·.1):=by
  cases h with
  | none=>exact⟨none,rfl,rfl⟩
  | int i t=>exact⟨some (i,t),rfl,rfl⟩
theorem BU:Cc X Jp:=by
  intro pins s σ H x v vl vu lo hi sl Q I rx hs pl pu h
  obtain⟨y,rfl,hz,q⟩:=h
  obtain⟨t,rfl⟩:=rx
  obtain⟨l,rfl,rfl⟩:=qd pl
  obtain⟨u,rfl,rfl⟩:=qd pu
  refine⟨"str",_,F.slot_str_getitem.lookup,typeIs_str _ _ _,wpAny_getItem_str_slice (l:=l) (u:=u) (st:=none) hs rfl ?_⟩
  refine post_val_or_str ⟨PK (Txt.slice_le y (l.map (·.1)) (u.map (·.1))) hz,fun t' k=>⟨.str _,H,I.tok _,⟨_,rfl⟩,q⟩⟩
def oS(fa:FE)(fl fh:FO):FE:=fun e=>(fa e).bind fun p=>(fl p.2).bind fun l=>(fh l.2).bind fun h=>(bP p.1).bind fun y=>if y.length≤1000000 then some (.d (.str (QG y l.1 h.1)),h.2) else none
theorem vt{fl fh:FO}(he:PE X a (fE K fa))(hl:PO X lo (fO K fl))(hh:PO X hi (fO K fh)):PE X (.Subscript a (.Slice lo hi none p2) pos) (fE K (oS fa fl fh)):=(qf BU he hl hh).mono fun σ H Q h=>by
  obtain⟨F,e,z,e',R,hf,q⟩:=h
  unfold oS at hf
  obtain⟨⟨x,e1⟩,h1,hf⟩:=OK hf
  obtain⟨⟨l,e2⟩,h2,hf⟩:=OK hf
  obtain⟨⟨u,e3⟩,h3,hf⟩:=OK hf
  obtain⟨y,h4,hf⟩:=OK hf
  split at hf
  case isFalse=>cases hf
  case isTrue hz=>
  cases hf
  refine⟨F,e,x,e1,R,h1,fun F1 H1 v X1 R1 A1=>⟨F1,e1,l,e2,R1,h2,fun F2 H2 X2 R2=>⟨F2,e2,u,_,R2,h3,fun F3 H3 X3 R3=>?_⟩⟩⟩
  have sl:Pk=16777216:=Qg
  exact⟨y,dO ((A1.ext X2).ext X3) h4,by lia,q F3 H3 _ ((X1.trans X2).trans X3) R3 nH⟩
def jw:En→Rv→Option Rv:=fun _ x=>(bP x).bind fun y=>if y.length≤640 then(Sj y).map fun n=>.d (.int n) else none
def Bx:V→Hp→VK→Prop:=fun v H Q=>∃y n,v=.str y∧y.length≤640∧Sj y=some n∧Q (.int n) H
theorem wn:dB X (.type "int") (fun xs H Q=>∃v,xs=[v]∧Bx v H Q):=by
  intro pins s σ H xs us Q I r h
  obtain⟨v,rfl,y,n,rfl,h1,h2,q⟩:=h
  obtain⟨u,rfl,ru⟩:=jH r
  obtain⟨t,rfl⟩:=ru
  exact PySem.W.KIN.call_text h2 h1 ⟨.int n,H,I.tok _,⟨_,rfl⟩,q⟩
theorem CP:dz K (fun xs H Q=>∃v,xs=[v]∧Bx v H Q) (g1 jw):=fx fun σ H0 F H e x z v Q R A hg q=>by
  unfold jw at hg
  obtain⟨y,h1,hg⟩:=OK hg
  split at hg
  case isFalse=>cases hg
  case isTrue hl=>
  obtain⟨n,h2,hg⟩:=OL hg
  cases hg
  exact⟨v,rfl,y,n,dO A h1,hl,h2,q F H _ (dP.refl _ _ _ _) R (show DA K F (.int n) (.int n) from b6.mpr rfl)⟩
theorem xJ:lh X K "int" (g1 jw):=⟨.inr ⟨_,_,wn,CP,PyProof.Rows.boot_int⟩⟩
def m8:En→Rv→Option Rv:=fun _ x=>(bP x).bind fun y=>if y.length≤1000000 then some (.d (.int y.length)) else none
theorem wo:dB X (.builtin "len") (fun xs H Q=>∃v,xs=[v]∧∃y:Str,v=.str y∧y.length≤1000000∧Q (.int y.length) H):=by
  intro pins s σ H xs us Q I r h
  obtain⟨v,rfl,y,rfl,h1,q⟩:=h
  obtain⟨u,rfl,ru⟩:=jH r
  obtain⟨t,rfl⟩:=ru
  exact len_str (by lia) ⟨.int _,H,I.tok _,⟨_,rfl⟩,q⟩
theorem C2:dz K (fun xs H Q=>∃v,xs=[v]∧∃y:Str,v=.str y∧y.length≤1000000∧Q (.int y.length) H) (g1 m8):=fx fun σ H0 F H e x z v Q R A hg q=>by
  unfold m8 at hg
  obtain⟨y,h1,hg⟩:=OK hg
  split at hg
  case isFalse=>cases hg
  case isTrue hl=>
  cases hg
  exact⟨v,rfl,y,dO A h1,hl,q F H _ (dP.refl _ _ _ _) R (show DA K F (.int _) (.int _) from b6.mpr rfl)⟩
theorem Cv:lh X K "len" (g1 m8):=⟨.inl ⟨_,_,wo,C2,PySem.boot_len⟩⟩
def He:V→List V→Hp→VK→Prop:=fun x vs H Q=>∃y z:Str,x=.str y∧vs=[.str z]∧(z.length==0)=false∧y.length+2≤Pk∧∀l,H l=none→Q (.ref l) (bE H l (.lst ((Qk y z).map V.str)))
theorem oB:∀{l:List (Str × Tok)},aV ((l.map (·.1)).map V.str) (strValues l)
  | []=>.nil
  | p::r=>.cons ⟨p.2,rfl⟩ (oB (l:=r))
theorem AB:Fe X "str.split" He:=by
  intro pins s σ H x xs v us Q I rx rs h
  obtain⟨y,z,rfl,rfl,hz,hl,q⟩:=h
  obtain⟨t,rfl⟩:=rx
  obtain⟨w,rfl,rw0⟩:=jH rs
  obtain⟨u,rfl⟩:=rw0
  have key:∀(l:List (Str × Tok)) (k:Nat),l.map (·.1)=Qk y z→EP X pins σ Q (.ref s.heap.objs.size) {s with heap:=s.heap.push {cls:=.type "list",data:=.seq (strValues l).toArray},toks:=k}:=fun l k hk=>by
    have hlen:l.length≤Pk:=by
      have h1:l.length=(Qk y z).length:=by rw [←hk,Px]
      have h2:(Qk y z).length≤y.length+2:=by
        unfold Qk
        split
        · simp
        · split
          · simp
          · have e1:=StrLaws.occ_length_le y z 0 y.length (y.length+1)
            rw [length_partsBetween];lia
      lia
    refine⟨.ref s.heap.objs.size,_,I.laid (t':=k) (o:=.lst ((Qk y z).map V.str)) (fun b ob q=>PL _ q) (Pp _) ?_,rfl,q _ (I.hok.fresh (Pp _))⟩
    refine⟨by rw [Px,←hk,Px];exact hlen,strValues l,0,by rw [←hk];exact oB,Qm _ rfl⟩
  have hn:(Builtin.Str.partsBetween y (Tu y z 0 y.length (y.length+1)) z.length).length≤Pk:=by
    have e1:=StrLaws.occ_length_le y z 0 y.length (y.length+1)
    rw [length_partsBetween];lia
  cases h1:(decide (y.length < z.length) || decide (Builtin.Str.strKind y < Builtin.Str.strKind z))
  · cases hf:(Tu y z 0 y.length (y.length+1)).isEmpty
    · refine QE SR (typeIs_str _ _ _) F.entry_str_split (F.args_str_split_2 _ _) (meets_str_split_sep y z t u h1 hz hf (by lia) hn) ?_
      show EP X pins σ Q _ {s with toks:=_,heap:=s.heap.push {cls:=.type "list",data:=.seq (strsFrom s.toks (Builtin.Str.partsBetween y (Tu y z 0 y.length (y.length+1)) z.length)).toArray}}
      rw [strsFrom_eq]
      exact key (numbered s.toks _) _ ((numbered_texts _ _).trans ((if_neg (ne_true_of_eq_false h1)).trans (if_neg (ne_true_of_eq_false hf))).symm)
    · exact QE SR (typeIs_str _ _ _) F.entry_str_split (F.args_str_split_2 _ _) (meets_str_split_not_found y z t u h1 hz hf)
        (key [(y,t)] s.toks ((if_neg (ne_true_of_eq_false h1)).trans (if_pos hf)).symm)
  · exact QE SR (typeIs_str _ _ _) F.entry_str_split (F.args_str_split_2 _ _) (meets_str_split_cannot_occur y z t u h1)
      (key [(y,t)] s.toks (if_pos h1).symm)
def fZ:En→Rv→Rv→Option Rv:=fun _ x y=>(bP x).bind fun u=>(bP y).bind fun v=>if v.length≠0∧u.length≤1000000 then some (.l ((Qk u v).map .str)) else none
theorem pH{F:Hp}:∀(ys:List Str),aP K F (ys.map .str) (ys.map V.str)
  | []=>aP.nil
  | y::ys=>.cons (js.mpr rfl) (pH ys)
theorem x_(ha:PE X a (fE K fa))(hb:PE X b (fE K fb))(hbase:Qr a "split" X.env (Pf a X.env)=Pf a X.env)
    (hfew:((Po cpos (Pd [b] X.env)).all (fun x=> !x.1)&&(QL cpos (QM [] X.env)).all (fun x=>x.1.isSome)&&decide (([b]:List OV).length+([]:List Qh).length+(if ([]:List Qh).isEmpty then 0 else 1) < 30))=true)
    (hline:(apos.endLine==cpos.line)=true)(hs:Pd [b] X.env=(false,Pf b X.env)::Pd [] X.env)(hplain:(Po cpos (Pd [] X.env)).any (·.1)=false):
    PE X (.Call (.Attribute a "split" apos) [b] [] cpos) (fE K (ay fZ fa fb)):=
  (AV Tt SR PySem.F.type_str_split AB ha (mF hb ig hs) hbase hfew hline hs hplain).mono fun σ H Q h=>by
    obtain⟨F,e,r,e',R,hf,q⟩:=h
    unfold ay at hf
    obtain⟨⟨x,e1⟩,h1,hf⟩:=OK hf
    obtain⟨⟨y,e2⟩,h2,hf⟩:=OK hf
    obtain⟨z,h3,hf⟩:=OL hf
    cases hf
    unfold fZ at h3
    obtain⟨u,g1,h3⟩:=OK h3
    obtain⟨v,g2,h3⟩:=OK h3
    split at h3
    case isFalse=>cases h3
    case isTrue hc=>
    cases h3
    refine⟨F,e,x,e1,R,h1,fun F1 H1 w X1 R1 A1=>?_⟩
    have ew:=dO A1 g1
    refine⟨?_,F1,e1,y,_,R1,h2,fun F2 H2 w2 X2 R2 A2=>?_⟩
    · rw [ew];trivial
    have ew2:=dO A2 g2
    have sl:Pk=16777216:=Qg
    refine⟨u,v,ew,by rw [ew2],by simpa using hc.1,by lia,fun l hl=>?_⟩
    obtain⟨R3,X3,hF,no⟩:=R2.newL (vs:=(Qk u v).map V.str) hl
    exact q F2 _ _ ((X1.trans X2).trans X3) R3 ⟨l,_,rfl,X1.dom _ (X2.dom _ hl),hF,av,pH _,no⟩
def Ha:V→List V→Hp→VK→Prop:=fun x vs H Q=>∃y,x=.str y∧vs=[]∧Q (.bl (Sk y)) H
theorem Gp:Fe X "str.isdecimal" Ha:=by
  intro pins s σ H x xs v us Q I rx rs h
  obtain⟨y,rfl,rfl,q⟩:=h
  obtain⟨t,rfl⟩:=rx
  have:=rs.zero
  subst this
  exact PySem.SC.isdecimal ⟨.bl _,H,I,rfl,q⟩
def tS:En→Rv→Option Rv:=fun _ x=>(bP x).map fun u=>.d (.bool (Sk u))
theorem Jc(ha:PE X a (fE K fa))(hbase:Qr a "isdecimal" X.env (Pf a X.env)=Pf a X.env)(hline:(apos.endLine==cpos.line)=true):PE X (.Call (.Attribute a "isdecimal" apos) [] [] cpos) (fE K (uo tS fa)):=
  (AW Tt PySem.F.slot_str_isdecimal PySem.F.type_str_isdecimal Gp ha hbase hline).mono fun σ H Q h=>by
    obtain⟨F,e,r,e',R,hf,q⟩:=h
    unfold uo at hf
    obtain⟨⟨x,e1⟩,h1,hf⟩:=OK hf
    obtain⟨z,h3,hf⟩:=OL hf
    cases hf
    obtain⟨u,g1,rfl⟩:=OL h3
    refine⟨F,e,x,_,R,h1,fun F1 H1 w X1 R1 A1=>?_⟩
    have ew:=dO A1 g1
    exact⟨by rw [ew];trivial,u,ew,rfl,q F1 H1 _ X1 R1 eP⟩
def tR:List OT→List OT→Option (OT × List OT):=fun xs ds=>match ds with
  | []=>some (.none,[])
  | _=>none
theorem CB:pq K Bw tR:=by
  intro F H l xs ys ds z vs us Q hF sm hl d1 d2 hg q
  unfold tR at hg
  match ds,hg,d2 with
  | [],hg,d2=>
    simp only [aP] at d2
    subst d2
    cases hg
    exact⟨l,vs,rfl,rfl,hl,q _ _ (fB.mpr rfl) aP.nil⟩
theorem DM(hK:X.K=K)(ho:PE X a (fE K fa))(hbase:Qr a "clear" X.env (Pf a X.env)=Pf a X.env)(hline:(apos.endLine==cpos.line)=true):
    PE X (.Call (.Attribute a "clear" apos) [] [] cpos) (fE K (ci tR fa ah)):=by
  subst hK;exact Bl PySem.F.slot_list_clear PySem.F.type_list_clear Az CB ho hbase hline
end
section
variable{X:Cx}{K:OU}{C:xM}{fa fb:XE}{fs:XR}{a b:OV}{es:List OV}{cA:List Pa}{pos apos p p2:Pos}
def km(i:Nat)(nm:Str)(fs:XR):XR:=fun x=>match x.2.lookup (.s i) with
  | some (.dk gs)=>if (gs.lookup nm).isNone=true then(fs x).map fun q=>(.inl (.s i)::q.1,q.2) else none
  | _=>none
theorem sL{i n:Nat}{nm:Str}{m:MX}{σ:L2.St}{H:Hp}{Q:VK}{E:XK}(h:iB K C (bu n m (km i nm fs)) σ H Q):yp C nm (kR K C n m) [] E (oQ i) (zX K C fs) σ H Q:=by
  obtain⟨F,x,fp,rs,x',R,hf,q⟩:=(sG (E:=E) h:zX K C (km i nm fs) σ H fun vs H1=>kR K C n m (vs++[]) H1 Q E)
  unfold km at hf
  split at hf
  case h_2=>cases hf
  case h_1 gs hl=>
  split at hf
  case isFalse=>cases hf
  case isTrue hn=>
  obtain⟨⟨rs1,x2⟩,h1,hf⟩:=OL hf
  cases hf
  obtain⟨_,v,g1,g2⟩:=R.obs _ (cz hl)
  obtain⟨ad,dx,hs,rfl,_,c1,c2,c3⟩:=g2
  refine⟨.ref ad,g1,ad,dx,hs,rfl,c2,c3.none (Option.isNone_iff_eq_none.mp hn),F,x,fp,rs1,_,R,h1,fun F2 H2 vs fp2 X2 R2 A2=>?_⟩
  exact q F2 H2 (.ref ad::vs) fp2 X2 R2 ⟨.ref ad,vs,rfl,g1,A2⟩
theorem mJ{i k n:Nat}{x nm:Str}{f:xM}{fd:Pj}{ps:List Str}{m:MX}{pl:Sem Bool}(hK:X.K=K)(ho:PE X (.Name x p) (oQ i))(cl:oT K C)(hm:kU K C nm f)(G:aF X.prog X.w X.K X.mg X.base bS k f fd ps (kR K C n m))(hr:bG k X.A)(hb:cS X.K fd ps [])(ha:PA X (a::es) (zX K C fs))
    (hst:Pd (a::es) X.env=(false,Pf a X.env)::Pd es X.env)(hpl:(Po pos (Pd es X.env)).any (·.1)=false)
    (ht:Pf (.Call (.Attribute (.Name x p) nm apos) (a::es) [] pos) X.env=(do
      let ov ←Pf (.Name x p) X.env
      standAt apos.atName
      let (f,first) ←holding [ov] (RB ov nm pl)
      callWith pos f first (Po pos (Pd (a::es) X.env)) (QL pos (QM [] X.env)))):
    PE X (.Call (.Attribute (.Name x p) nm apos) (a::es) [] pos) (iB K C (bu n m (km i nm fs))):=by
  subst hK
  exact(xZ ho cl hm G hr hb .nil rX ha hst hpl ht).mono fun _ _ _ h=>sL h
theorem Bf{i k n:Nat}{x nm:Str}{f:xM}{fd:Pj}{ps:List Str}{m:MX}{pl:Sem Bool}(hK:X.K=K)(ho:PE X (.Name x p) (oQ i))(cl:oT K C)(hm:kU K C nm f)(G:aF X.prog X.w X.K X.mg X.base bS k f fd ps (kR K C n m))(hr:bG k X.A)(hb:cS X.K fd ps [])
    (ht:Pf (.Call (.Attribute (.Name x p) nm apos) [] [] pos) X.env=(do
      let ov ←Pf (.Name x p) X.env
      standAt apos.atName
      let (f,first) ←holding [ov] (RB ov nm pl)
      callWith pos f first (Po pos (Pd [] X.env)) (QL pos (QM [] X.env)))):
    PE X (.Call (.Attribute (.Name x p) nm apos) [] [] pos) (iB K C (bu n m (km i nm bY))):=by
  subst hK
  refine(AY ho cl hm G hr hb .nil rX ht).mono fun σ H Q h=>?_
  obtain⟨v,g1,ad,dx,hs,e1,e2,e3,F,x,fp,rs,x',R,hf,q⟩:=sL (E:=E0) h
  cases hf
  exact⟨v,g1,ad,dx,hs,e1,e2,e3,q F H [] fp bw.refl R rfl⟩
theorem Bh{lo hi:Option OV}{l h:Option Int}(hK:X.K=K)(he:PE X a (iB K C fa))(hl:PO X lo (fO K fun e=>some (l,e)))(hh:PO X hi (fO K fun e=>some (h,e))):PE X (.Subscript a (.Slice lo hi none p2) pos) (iB K C (HA fa l h)):=by
  subst hK
  refine(qf Jv he hl hh).mono fun σ H Q hh'=>?_
  obtain⟨F,x,fp,r,x',R,hf,q⟩:=hh'
  unfold HA at hf
  obtain⟨⟨d,x1⟩,h1,hf⟩:=OK hf
  obtain⟨z,h2,hf⟩:=OK hf
  obtain⟨d2,h3,hf⟩:=OL hf
  cases hf
  refine⟨F,x,fp,d,_,R,h1,fun F1 H1 v fp1 X1 R1 A1=>⟨F1,_,_,_,R1.rel,rfl,fun F2 H2 X2 R2=>⟨F2,_,_,_,R2,rfl,fun F3 H3 X3 R3=>?_⟩⟩⟩
  obtain⟨Y2,R2X⟩:=R1.pure0 X2 R2
  obtain⟨Y3,R3X⟩:=R2X.pure0 X3 R3
  have A3:cD X.K σ H3 F3 H3 x1.1 (.d d) v:=A1.mono (X2.sf.trans X3.sf)
  unfold Ig at h2
  obtain⟨⟨k,ds⟩,g1,g2⟩:=OL h2
  obtain⟨pp,vs,rfl,B,S⟩:=dw R3 A3 g1
  cases k with
  | true=>
    have g2':Rv.l (lu ds l h)=z:=by simpa using g2
    subst g2'
    refine .inr (.inr ⟨pp,vs,rfl,S,fun b hb=>?_⟩)
    obtain⟨R4,X4,hF,no⟩:=R3.newL (vs:=oH vs l h) hb
    obtain⟨Y4,R4X⟩:=R3X.pure0 X4 R4
    obtain⟨F5,Y5,R5,D5⟩:=aU.toD (H1:=H3) Y4 R4X (fun _ z=>z) R3X.hn (show cD X.K σ H3 F3 _ _ (.l (lu ds l h)) (.ref b) from⟨b,_,rfl,hb,hF,av,ti B l h,no⟩) h3
    exact q F5 _ _ _ (((X1.trans Y2).trans Y3).trans Y5) R5 D5
  | false=>
    have g2':Rv.d (.tuple (lu ds l h))=z:=by simpa using g2
    subst g2'
    cases h3
    by_cases hw:HT.sIx vs.length 0 l=0∧HT.sIx vs.length vs.length h=vs.length
    · refine .inr (.inl ⟨pp,vs,rfl,S,hw,?_⟩)
      have e5:lu ds l h=ds:=by unfold lu;exact xP (by rw [B.len];exact hw)
      rw [e5] at q
      obtain⟨F4,R4,X4,hF⟩:=R3.growT (aq.refl _) S
      obtain⟨Y4,R4X⟩:=R3X.pure0 X4 R4
      exact q _ _ _ _ (((X1.trans Y2).trans Y3).trans Y4) R4X (cN.mpr ⟨pp,vs,rfl,hF,B.mono X4.sf⟩)
    · refine .inl ⟨pp,vs,rfl,S,hw,fun b hb=>?_⟩
      obtain⟨R4,X4⟩:=R3.newT (vs:=oH vs l h) hb
      obtain⟨Y4,R4X⟩:=R3X.pure0 X4 R4
      exact q _ _ _ _ (((X1.trans Y2).trans Y3).trans Y4) R4X (cN.mpr ⟨b,_,rfl,.inl (.inl av),(ti B l h).mono X4.sf⟩)
def B8(y:Str)(fb:XE):XE:=fun x=>(fb x).bind fun p=>match p.1 with
  | .int i=>if i.natAbs.log2 < 1900∧y.length≤1000∧((toString i:String):Str).length≤1000 then some (.str (QV++y++(toString i:String)),p.2) else none
  | _=>none
theorem Jb{y:Str}{j:Nat}{p0 p1:Pos}(hb:PE X b (iB K C fb)):PE X (.JoinedStr [.Constant (.str y) j p0,.FormattedValue b (-1) none p1] pos) (iB K C (B8 y fb)):=fun pins s σ H Q I h=>by
  obtain⟨F,x,fp,r,x',R,hf,q⟩:=h
  unfold B8 at hf
  obtain⟨⟨d,x1⟩,h1,hf⟩:=OK hf
  dsimp only at hf
  split at hf
  case h_2=>cases hf
  case h_1 i=>
  split at hf
  case isFalse=>cases hf
  case isTrue hc=>
  cases hf
  have e0:(QV).length=0:=rfl
  have l1:(QV++y).length=y.length:=by rw [pZ,e0];lia
  refine JoinedStr_many (joinParts_cons (cR (@w_ X y j p0 pins s σ H (fun v H1=>v=.str y∧H1=H) I ⟨rfl,rfl⟩) fun v s1 ⟨xv,H1,I1,rv1,ex,eh⟩=>?_))
  subst ex
  subst eh
  obtain⟨t1,rfl⟩:=rv1
  refine⟨by rw [l1,Qg];lia,joinParts_cons (FormattedValue_plain (cR (hb pins s1 σ H1 _ I1 ⟨F,x,fp,_,x',R,h1,fun F2 H2 v fp2 X2 R2 A2=>(⟨b6.mp A2,F2,fp2,X2,R2⟩:v=.int i∧∃F2 fp2,bw [] σ F H1 x.1 (Fo x.2 fp) σ F2 H2 x'.1 (Fo x'.2 fp2)∧aU K C F2 H2 σ x'.1 x'.2 fp2)⟩) fun v s2 ⟨yv,H2,I2,rv2,ey,F2,fp2,X2,R2⟩=>?_))⟩
  subst ey
  obtain⟨t2,rfl⟩:=rv2
  have hl2:=hc.2.2
  refine formatField_int_small (by lia) ⟨by rw [pZ,l1,Qg];lia,joinParts_nil ⟨.str _,H2,(I2.tok _).tok _,⟨_,rfl⟩,q F2 H2 _ fp2 X2 R2 (js.mpr rfl)⟩ (by rw [pZ,l1,Qg];lia)⟩
end
theorem t_{K:OU}{F H:Hp}(sm:aq F H){rs:List Ar}{vs:List V}(hl:rs.length=vs.length)(hd:∀(k:Nat) (d:OT),rs[k]?=some (.inr d)→∃v,vs[k]?=some v∧DA K F d v):a_ K F H (vs.map some) (ku rs):=by
  refine⟨sm,by unfold ku;simp [hl],fun i y hy=>?_,fun i ys hy=>?_,fun i ys hy=>?_,fun i j a hi _=>absurd ⟨i,hi⟩ (cP (cx rs))⟩
  · rcases jt hy with ⟨_,_,w⟩ | ⟨d,hk,w⟩
    · cases w
    · cases w
      obtain⟨v,g1,g2⟩:=hd _ _ hk
      exact⟨v,by rw [PF,g1];rfl,g2⟩
  · rcases jt hy with ⟨_,_,w⟩ | ⟨_,_,w⟩<;>cases w
  · rcases jt hy with ⟨_,_,w⟩ | ⟨_,_,w⟩<;>cases w
section
variable{K:OU}{C:xM}{F H F' H':Hp}{σ:L2.St}{e:En}{ob:jk}{fp:Lc→List xM}{i:Nat}
def jG(i:Nat)(ob:jk):jk:=ob.filter fun p=> !(p.1.slot==i)
theorem aU.fresh(R:aU K C F H σ e ob fp){v:V}{o:Ob}{fs:List xM}(sF:aq F F')(sm:aq F' H')(dom:∀a,H' a=none→H a=none)(tmp:∀a u,H a=some u→H' a=some u)
    (fr:∀a,F a=none→(∃u,H a=some u∧(kept u=true∨zz u=true))→F' a=none)(hi:i < e.length)(hfs:∀a∈fs,H a=none)(ho:iz K C F' H' o v fs):
    bw [i] σ F H e (Fo ob fp) (σ.set i (some v)) F' H' (e.set i none) (Fo ((.s i,o)::jG i ob) fun c=>if c=.s i then fs else fp c)∧aU K C F' H' (σ.set i (some v)) (e.set i none) ((.s i,o)::jG i ob) fun c=>if c=.s i then fs else fp c:=by
  obtain⟨R2,o2⟩:=R.rel.keep sF sm (fun a h=>by
    obtain⟨j,hj⟩:=h
    obtain⟨h1,vs,h2⟩:=R.rel.fpAt hj
    exact fr a h1 ⟨_,h2,.inl rfl⟩) (fun a o h q=>tmp a o q)
  have R3:=(R2.drop i).poke (some v)
  have o3:∀a,bA (σ.set i (some v)) (e.set i none) H' a→bA σ e H a:=fun a ⟨j,z⟩=>(o2 a).mp (bA.drop ⟨j,jv.mp z⟩)
  have mo:∀{p},p∈jG i ob→p∈ob∧p.1.slot≠i:=fun{p} h=>by
    obtain⟨h1,h2⟩:=QJ.mp h
    exact⟨h1,by simpa using h2⟩
  have ne:∀{p:Lc × Ob},p.1.slot≠i→p.1≠.s i:=fun h z=>h (by rw [z];rfl)
  have sub:∀a,Fo ((.s i,o)::jG i ob) (fun c=>if c=.s i then fs else fp c) a→Fo ob fp a∨H a=none:=by
    rintro a ⟨p,hp,ha⟩
    rcases OP hp with rfl | hp
    · simp only [if_true] at ha;exact .inr (hfs a ha)
    · obtain⟨h1,h2⟩:=mo hp
      simp only [if_neg (ne h2)] at ha
      exact .inl ⟨p,h1,ha⟩
  refine⟨⟨sF,dom,fun a vs h1 h2 _ _=>fr a h1 ⟨_,h2,.inl rfl⟩,fun a vs h=>⟨vs,tmp a _ h⟩,fun a u h _ _=>tmp a u h,fun a z=>?_,fun j n=>Pm (fun z=>n (by simp [z])),fun a m h1 h2 _ _=>fr a h1 ⟨_,h2,.inr m.2⟩⟩,R3,fun p hp=>?_,?_,fun a ha z=>?_⟩
  · rcases z with z | z
    · exact .inl (.inl (o3 a z))
    · exact(sub a z).imp_left .inr
  · rcases OP hp with rfl | hp
    · refine⟨Qb hi,v,?_,by simpa using ho⟩
      show(σ.set i (some v))[i]?=_
      exact Qb (by rw [R.rel.len];exact hi)
    · obtain⟨h1,h2⟩:=mo hp
      obtain⟨c1,u,c2,c3⟩:=R.obs p h1
      refine⟨by rw [Pm (Pt h2)];exact c1,u,c2.mono sF (Pm (Pt h2)),?_⟩
      simp only [if_neg (ne h2)]
      refine c3.mono sF (fun a ha=>?_) fun a ha=>?_
      · obtain⟨g1,w,g2,g3⟩:=R.at ⟨p,h1,ha⟩
        exact fr a g1 ⟨w,g2,.inl g3⟩
      · obtain⟨g1,w,g2,g3⟩:=R.at ⟨p,h1,ha⟩
        rw [g2];exact tmp a w g2
  · intro p hp q hq hne a ha hb
    rcases OP hp with rfl | hp
    · simp only [if_true] at ha
      rcases OP hq with rfl | hq
      · exact hne rfl
      · obtain⟨h1,h2⟩:=mo hq
        simp only [if_neg (ne h2)] at hb
        exact R.hn a ⟨q,h1,hb⟩ (hfs a ha)
    · obtain⟨h1,h2⟩:=mo hp
      simp only [if_neg (ne h2)] at ha
      rcases OP hq with rfl | hq
      · simp only [if_true] at hb
        exact R.hn a ⟨p,h1,ha⟩ (hfs a hb)
      · obtain⟨g1,g2⟩:=mo hq
        simp only [if_neg (ne g2)] at hb
        exact R.dis p h1 q g1 hne a ha hb
  · rcases sub a ha with w | w
    · exact R.own a w (o3 a z)
    · exact R.rel.ownH a (o3 a z) w
end
section
variable{X:Cx}{K:OU}{C:xM}{fa fb:XE}{fs:XR}{f0:FS}{a b:OV}{es:List OV}{cA:List Pa}{pos apos p p2:Pos}{W:List Nat}
def vG(i:Nat)(m:MX)(fa:XE):XS:=fun x=>(fa x).bind fun p=>(m ([none,some (.d p.1)],[(.s 0,.dk [])])).bind fun z=>match z with
  | (.none,[(.s 0,.dk fs)])=>if i < p.2.1.length then some (.nx (p.2.1.set i none,(.s i,.dk fs)::jG i p.2.2)) else none
  | _=>none
theorem vx{i k:Nat}{x y:Str}{f:xM}{fd:Pj}{ps:List Str}{m:MX}{pos' cpos:Pos}(hK:X.K=K)(M:Mk K C f)(G:aF X.prog X.w X.K X.mg X.base bS k f fd ps (kR K C 2 m))(hr:bG (k+1) X.A)(hg:Gl X y)(hm:X.mg y=some (.ref C))(hb:cS X.K fd ps [])(ha:PE X a (iB K C fa))
    (hN:X.N.Nodup)(hi:X.N[i]?=some x)(hx:zx X.env.scope x)(hst:Rl a=false)(hdb:(y==("__debug__":Str))=false)(he:Pd [a] X.env=(false,Pf a X.env)::Pd [] X.env)(hpl:(Po cpos (Pd [] X.env)).any (·.1)=false)
    (hs:QO (.Call (.Name y p) [a] [] cpos) (some (.Name x pos')) pos.line X.env=pure false)(hf:X.fn x=true∨X.env.scope.names.lookup x=some .local):
    PS X (.Assign [.Name x pos'] (.Call (.Name y p) [a] [] cpos) pos) (nW K C (vG i m fa) [i]):=by
  subst hK
  refine(qi hN hi hx (Dz M G hr hg hm hb .nil rX (vm ha ig hst) hdb he hpl) hs hf).mono fun D σ H h=>?_
  obtain⟨F,x,fp,fl,R,hf,q⟩:=h
  unfold vG at hf
  obtain⟨⟨d,x1⟩,h1,hf⟩:=OK hf
  obtain⟨⟨r,oc⟩,h2,hf⟩:=OK hf
  dsimp only at hf h2
  split at hf
  case h_2=>cases hf
  case h_1 fs heq=>
  cases heq
  split at hf
  case isFalse=>cases hf
  case isTrue hlt=>
  cases hf
  refine⟨F,x,fp,d,x1,R,h1,fun F1 H1 v fp1 X1 R1 A1=>fun o dx ho hdx hne=>?_⟩
  show kR X.K C 2 m (.ref o::([v]++[])) _ _ _
  let H2:Hp:=bE (bE H1 dx (.own o)) o (.ins C dx [])
  have up:∀a u,H1 a=some u→H2 a=some u:=fun a u z=>by
    have n1:a≠o:=fun w=>by rw [w,ho] at z;cases z
    have n2:a≠dx:=fun w=>by rw [w,hdx] at z;cases z
    show bE (bE H1 dx _) o _ a=_
    rw [ax n1,ax n2];exact z
  have dn:∀a,H2 a=none→H1 a=none:=fun a z=>by
    cases w:H1 a with
    | none=>rfl
    | some u=>rw [up a u w] at z;cases z
  have sm2:aq F1 H2:=fun a u z=>up a u (R1.rel.sm a u z)
  have fo:F1 o=none:=R1.rel.freeF ho
  have Rc:aU X.K C F1 H2 ([V.ref o,v].map some) (ku [.inl (.s 0),.inr d]) [(.s 0,.dk [])] fun _=>[o]:=by
    refine⟨t_ sm2 rfl fun k d' hk=>?_,fun p hp=>?_,fun p hp q hq hne=>?_,fun a _=>cP (cx _)⟩
    · match k,hk with
      | 1,hk=>cases hk;exact⟨v,rfl,A1⟩
    · rw [PJ] at hp
      subst hp
      exact⟨rfl,.ref o,rfl,o,dx,[],rfl,rfl,fo,av,rfl⟩
    · rw [PJ] at hp hq
      subst hp;subst hq
      exact absurd rfl hne
  refine⟨rfl,F1,(ku [.inl (.s 0),.inr d],[(.s 0,.dk [])]),_,_,_,Rc,cx _,h2,fun F' H' w fq X3 R3 A3=>⟨fB.mp A3,?_⟩⟩
  have nO:∀a,¬bA ([V.ref o,v].map some) (ku [.inl (.s 0),.inr d]) H2 a:=fun a=>cP (cx _)
  have nS:∀a u,H1 a=some u→¬Fo [((Lc.s 0:Lc),Ob.dk [])] (fun _=>[o]) a:=fun a u z=>by
    rintro⟨p,_,hp⟩
    rw [PJ] at hp
    rw [hp,ho] at z;cases z
  obtain⟨_,u,g1,g2⟩:=R3.obs _ (PJ.mpr rfl)
  have g1:some (some (V.ref o))=some (some u):=g1
  cases g1
  have g2':=g2
  obtain⟨o',dx',gs,e1,e2,e3,e4,e5⟩:=g2
  cases e1
  obtain⟨Y,R4⟩:=R1.fresh (i:=i) (v:=.ref o) (o:=.dk fs) (fs:=[o]) (F':=F') (H':=H') X3.sf R3.rel.sm (fun a z=>dn a (X3.dom a z)) (fun a u z=>X3.tmp a u (up a u z) (nO a) (nS a u z))
    (fun a g1 ⟨u,g2,g3⟩=>by
      by_cases k:zz u=true
      · exact X3.fd a ⟨u,k⟩ g1 (up a u g2) (nO a) (nS a u g2)
      · rcases g3 with g3 | g3
        · cases u with
          | lst us=>exact X3.fr a us g1 (up a _ g2) (nO a) (nS a _ g2)
          | ins c d fs=>exact absurd rfl k
          | _=>cases g3
        · exact absurd g3 k) hlt (fun a ha=>by rw [PJ] at ha;rw [ha];exact ho) ⟨o,dx',gs,rfl,rfl,e3,e4,e5⟩
  exact q F' H' _ _ ((X1.mono (fun j h=>by cases h)).trans Y) R4
def BJ(i:Nat):XS:=fun x=>if i < x.1.length then some (.nx (x.1.set i none,(.s i,.st [] [])::jG i x.2)) else none
theorem y_{i j:Nat}{x:Str}{pos' q1 q2 q3:Pos}(hN:X.N.Nodup)(hi:X.N[i]?=some x)(hx:zx X.env.scope x)(hs:QO (.Tuple [.List [] q1,.List [] q2] j q3) (some (.Name x pos')) pos.line X.env=pure false)(hf:X.fn x=true∨X.env.scope.names.lookup x=some .local):
    PS X (.Assign [.Name x pos'] (.Tuple [.List [] q1,.List [] q2] j q3) pos) (nW K C (BJ i) [i]):=by
  refine(qi hN hi hx (A0 (vm (wZ ig) (vm (wZ ig) ig rfl) rfl)) hs hf).mono fun D σ H h=>?_
  obtain⟨F,x,fp,fl,R,hf,q⟩:=h
  unfold BJ at hf
  split at hf
  case isFalse=>cases hf
  case isTrue hlt=>
  cases hf
  refine⟨QP _,fun l hl=>⟨QP _,fun m hm=>⟨by show 2≤Pk;decide,fun t ht=>?_⟩⟩⟩
  have nm:m≠l:=fun w=>by rw [w,av] at hm;cases hm
  have nt:t≠m:=fun w=>by rw [w,av] at ht;cases ht
  rw [ax nm] at hm
  rw [ax nt] at ht
  have ntl:t≠l:=fun w=>by rw [w,av] at ht;cases ht
  rw [ax ntl] at ht
  let H2:Hp:=bE (bE (bE H l (.lst [])) m (.lst [])) t (.tup [.ref l,.ref m])
  have up:∀a u,H a=some u→H2 a=some u:=fun a u z=>by
    have n1:a≠t:=fun w=>by rw [w,ht] at z;cases z
    have n2:a≠m:=fun w=>by rw [w,hm] at z;cases z
    have n3:a≠l:=fun w=>by rw [w,hl] at z;cases z
    show bE (bE (bE H l _) m _) t _ a=_
    rw [ax n1,ax n2,ax n3];exact z
  have dn:∀a,H2 a=none→H a=none:=fun a z=>by
    cases w:H a with
    | none=>rfl
    | some u=>rw [up a u w] at z;cases z
  have fr:∀{a},H a=none→F a=none:=fun h=>R.rel.freeF h
  have sF:aq F (bE F t (.tup [.ref l,.ref m])):=aq.new (fr ht)
  have hl2:H2 l=some (.lst []):=by show bE (bE (bE H l _) m _) t _ l=_;rw [ax (Pt ntl),ax (Pt nm),av]
  have hm2:H2 m=some (.lst []):=by show bE (bE (bE H l _) m _) t _ m=_;rw [ax (Pt nt),av]
  obtain⟨Y,R4⟩:=R.fresh (i:=i) (v:=.ref t) (o:=.st [] []) (fs:=[l,m]) (F':=bE F t (.tup [.ref l,.ref m])) (H':=H2) sF (fun a u z=>by
      by_cases w:a=t
      · subst w;rw [av] at z;cases z;exact av
      · rw [ax w] at z;exact up a u (R.rel.sm a u z)) dn up (fun a z ⟨u,g,_⟩=>by
      have:a≠t:=fun w=>by rw [w,ht] at g;cases g
      rw [ax this];exact z) hlt (fun a ha=>by
      rcases OP ha with w | w
      · rw [w];exact hl
      · rw [PJ] at w;rw [w];exact hm)
    ⟨t,l,m,[],[],rfl,rfl,fun w=>nm w.symm,.inl (.inl av),by rw [ax (Pt ntl)];exact fr hl,by rw [ax (Pt nt)];exact fr hm,hl2,hm2,aP.nil,aP.nil⟩
  exact q _ _ _ _ Y R4
end
section
variable{X:Cx}{K:OU}{C:xM}{f0:FS}{cA:List Pa}{pos p p1 p2 p3:Pos}{W:List Nat}
def qz(c i j:Nat)(W:List Nat)(f:FS):XS:=fun x=>match x.2 with
  | [(.s k,.st xs ys)]=>if k=c∧i < x.1.length∧j < x.1.length∧i≠j∧c≠i∧c≠j∧i∉W∧j∉W∧c∉W then(f (((x.1.set i none).set j none).set i (some (.l xs)) |>.set j (some (.l ys)))).bind fun fl=>match fl with
      | .rt r e=>(hR r).bind fun d=>match e[i]?,e[j]?,e[c]? with
        | some (some (.l xs')),some (some (.l ys')),some none=>some (.rt d ((e.set i none).set j none,[(.s k,.st xs' ys')]))
        | _,_,_=>none
      | _=>none
    else none
  | _=>none
theorem za{c i j k:Nat}{x y z:Str}(hK:X.K=K)(hc:X.calm=true)(ho:PE X (.Name z p) (oQ c))(hN:X.N.Nodup)(hi:X.N[i]?=some x)(hj:X.N[j]?=some y)(hx:zx X.env.scope x)(hy:zx X.env.scope y)(hfx:X.fn x=true∨X.env.scope.names.lookup x=some .local)(hfy:X.fn y=true∨X.env.scope.names.lookup y=some .local)
    (hs:RV [.Tuple [.Name x p1,.Name y p2] k p3] (.Name z p) pos.line X.env=pure false)(hw:RW [.Tuple [.Name x p1,.Name y p2] k p3] (.Name z p) X.env=pure none)(h1:(PQ [.Tuple [.Name x p1,.Name y p2] k p3] X.env).map (·.2)=[assign (.Tuple [.Name x p1,.Name y p2] k p3) X.env])
    (hn:(PQ [.Name x p1,.Name y p2] X.env).length=2)(hst:(PQ [.Name x p1,.Name y p2] X.env).findIdx? (·.1)=none)(ha:(PQ [.Name x p1,.Name y p2] X.env).map (·.2)=assign (.Name x p1) X.env::(PQ [.Name y p2] X.env).map (·.2))(hb:(PQ [.Name y p2] X.env).map (·.2)=assign (.Name y p2) X.env::(PQ [] X.env).map (·.2))
    (hr:jj X cA (fS K f0 W)):jj X (.Assign [.Tuple [.Name x p1,.Name y p2] k p3] (.Name z p) pos::cA) (nW K C (qz c i j W f0) (i::j::W)):=by
  refine(kc (A9 ho (x4 hK hc (qg (tZ hN hi hx hfx) (qg (tZ hN hj hy hfy) x5 hb) ha) hn hst) hs hw h1) hr).mono fun D σ H h=>?_
  obtain⟨F,⟨e,ob⟩,fp,fl,R,hf,q⟩:=h
  unfold qz at hf
  dsimp only at hf
  split at hf
  case h_2=>cases hf
  case h_1 kk xs ys=>
  split at hf
  case isFalse=>cases hf
  case isTrue hcnd=>
  obtain⟨rfl,li,lj,nij,nci,ncj,wi,wj,wc⟩:=hcnd
  obtain⟨fl1,g1,hf⟩:=OK hf
  obtain⟨c1,v,c2,c3⟩:=R.obs _ (PJ.mpr rfl)
  obtain⟨t,l,m,vs,us,rfl,efp,nlm,st,fl0,fm0,hl,hm,dx,dy⟩:=c3
  have c2:σ[kk]?=some (some (.ref t)):=c2
  have nf:∀a,a∈[l,m]→¬bA σ e H a:=fun a ha=>R.own a ⟨_,PJ.mpr rfl,by rw [efp];exact ha⟩
  have R1:=((R.rel.drop i).poke (some (V.ref l)))
  have R2:=((R1.drop j).poke (some (V.ref m)))
  have lenσ:σ.length=e.length:=R.rel.len
  refine⟨_,c2,t,[.ref l,.ref m],rfl,R.rel.sm.tup st,rfl,.ref l,[.ref m],rfl,.ref m,[],rfl,rfl,?_⟩
  let e0:En:=(e.set i none).set j none
  have R2':a_ K F H ((σ.set i (some (.ref l))).set j (some (.ref m))) e0:=R2
  have ow0:∀a,bA ((σ.set i (some (.ref l))).set j (some (.ref m))) e0 H a→bA σ e H a:=fun a ⟨q,z⟩=>by
    have z1:Fp (σ.set i (some (.ref l))) ((e.set i none).set j none) H q a:=jv.mp z
    exact bA.drop ⟨q,jv.mp z1.drop⟩
  obtain⟨R3,o3⟩:=R2'.setL i (xs:=xs) (l:=l) fl0 hl dx (fun z=>nf l (by simp) (ow0 l z))
  have eσ:((σ.set i (some (V.ref l))).set j (some (V.ref m))).set i (some (V.ref l))=(σ.set i (some (V.ref l))).set j (some (V.ref m)):=by
    refine Rm fun q=>?_
    by_cases z:i=q
    · subst z
      rw [Qb (by simp;lia),Pm (Pt nij),Qb (by lia)]
    · rw [Pm z]
  rw [eσ] at R3 o3
  obtain⟨R4,o4⟩:=R3.setL j (xs:=ys) (l:=m) fm0 hm dy (fun z=>by
    rcases o3 m z with w | w
    · exact nf m (by simp) (ow0 m w)
    · exact nlm w.symm)
  have eσ2:((σ.set i (some (V.ref l))).set j (some (V.ref m))).set j (some (V.ref m))=(σ.set i (some (V.ref l))).set j (some (V.ref m)):=by rw [List.set_set]
  rw [eσ2] at R4 o4
  have ow4:∀a,bA ((σ.set i (some (.ref l))).set j (some (.ref m))) ((e0.set i (some (.l xs))).set j (some (.l ys))) H a→bA σ e H a∨Fo [((Lc.s kk:Lc),Ob.st xs ys)] fp a:=fun a z=>by
    have fo:∀b∈[l,m],Fo [((Lc.s kk:Lc),Ob.st xs ys)] fp b:=fun b hb=>⟨_,PJ.mpr rfl,by rw [efp];exact hb⟩
    rcases o4 a z with w | w
    · rcases o3 a w with w | w
      · exact .inl (ow0 a w)
      · rw [w];exact .inr (fo l (by simp))
    · rw [w];exact .inr (fo m (by simp))
  refine⟨F,_,fl1,R4,g1,?_⟩
  cases fl1 with
  | rt r e'=>
    obtain⟨d,h2,hf⟩:=OK hf
    split at hf
    case h_2=>cases hf
    case h_1 xs' ys' ei ej ec=>
    cases hf
    intro F' H' σ' v X' R' A'
    have si:σ'[i]?=some (some (.ref l)):=by rw [X'.wr i wi,Pm (Pt nij),Qb (by lia)]
    have sj:σ'[j]?=some (some (.ref m)):=by rw [X'.wr j wj,Qb (by simp;lia)]
    have sc:σ'[kk]?=some (some (.ref t)):=by rw [X'.wr kk wc,Pm (Pt ncj),Pm (Pt nci)];exact c2
    obtain⟨l',vs',a1,a2,a3,a4⟩:=R'.own i xs' ei
    rw [si] at a1;cases a1
    obtain⟨m',us',b1,b2,b3,b4⟩:=R'.own j ys' ej
    rw [sj] at b1;cases b1
    obtain⟨F2,R2,s2,D2,f2⟩:∃F2,a_ K F2 H' σ' e'∧aq F' F2∧DA K F2 d v∧∀a,F' a=none→H a≠none→F2 a=none:=by
      cases r with
      | d x=>cases h2;exact⟨F',R',aq.refl _,A',fun _ h _=>h⟩
      | s q=>cases h2
      | l zs=>cases h2;exact A'.frozen R'
    have fpi:Fp σ' e' H' i l:=.inl ⟨xs',ei,si⟩
    have fpj:Fp σ' e' H' j m:=.inl ⟨ys',ej,sj⟩
    have non:∀{q:Nat} {a:xM},Fp σ' ((e'.set i none).set j none) H' q a→q≠i∧q≠j:=fun{q a} z=>by
      have key:∀s:Sv,((e'.set i none).set j none)[q]?=some (some s)→q≠i∧q≠j:=fun s w=>by
        refine⟨fun z=>?_,fun z=>?_⟩
        · subst z
          have:=mh w
          rw [RK,if_pos rfl] at this
          split at this<;>cases this
        · subst z
          rw [RK,if_pos rfl] at w
          split at w<;>cases w
      rcases z with ⟨zs,w,_⟩ | ⟨zs,_,_,w,_⟩
      · exact key _ w
      · exact key _ w
    have hdrop:∀a,bA σ' ((e'.set i none).set j none) H' a→bA σ' e' H' a:=fun a z=>bA.drop (bA.drop z)
    have hln:H l≠none:=by rw [hl];simp
    have hmn:H m≠none:=by rw [hm];simp
    refine q F2 H' σ' v fp ⟨X'.sf.trans s2,X'.dom,fun a ws h1 h2 n1 n2=>f2 a (X'.fr a ws h1 h2 fun z=>(ow4 a z).elim n1 n2) (by rw [h2];simp),X'.lst,fun a o h n1 n2=>X'.tmp a o h fun z=>(ow4 a z).elim n1 n2,fun a z=>?_,fun q hq=>?_,fun a o h1 h2 n1 n2=>f2 a (X'.fd a o h1 h2 fun z=>(ow4 a z).elim n1 n2) (by rw [h2];simp)⟩ ⟨(R2.drop i).drop j,fun p hp=>?_,fun p hp p' hp' hne=>?_,fun a ha z=>?_⟩ D2
    · rcases z with z | z
      · rcases X'.own a (hdrop a z) with w | w
        · exact .inl (ow4 a w)
        · exact .inr w
      · obtain⟨p,hp,ha⟩:=z
        rw [PJ] at hp
        subst hp
        exact .inl (.inr ⟨_,PJ.mpr rfl,ha⟩)
    · have h1:q≠i:=fun z=>hq (by simp [z])
      have h2:q≠j:=fun z=>hq (by simp [z])
      have h3:q∉W:=fun z=>hq (by simp [z])
      rw [X'.wr q h3,Pm (Pt h2),Pm (Pt h1)]
    · rw [PJ] at hp
      subst hp
      refine⟨?_,.ref t,sc,t,l,m,vs',us',rfl,efp,nlm,(X'.sf.trans s2).tup st,f2 l a2 hln,f2 m b2 hmn,a3,b3,a4.mono s2,b4.mono s2⟩
      show((e'.set i none).set j none)[kk]?=_
      rw [Pm (Pt ncj),Pm (Pt nci)]
      exact ec
    · rw [PJ] at hp hp'
      subst hp;subst hp'
      exact absurd rfl hne
    · obtain⟨p,hp,ha⟩:=ha
      rw [PJ] at hp
      subst hp
      have ha:a∈fp (Lc.s kk):=ha
      rw [efp] at ha
      obtain⟨q,zq⟩:=z
      obtain⟨n1,n2⟩:=non zq
      rcases OP ha with w | w
      · subst w;exact n1 (R'.fp q i _ zq.drop.drop fpi)
      · rw [PJ] at w;subst w;exact n2 (R'.fp q j _ zq.drop.drop fpj)
  | nx e'=>cases hf
  | bk e'=>cases hf
  | ct e'=>cases hf
end
structure HG (K:OU) (w:OW) (a:xM) (ms:List (Str × xM)):Prop where
  at_:∃es n,K.lookup a=some ⟨.type "dict",none,.dict es n,#[]⟩∧Paired (fun(e:Rq) (p:Str × xM)=>e.hash=hashStr w p.1∧(∃t,e.key=.str p.1 t)∧e.val=.ref p.2) es.toList ms
  nod:(ms.map (·.1)).Nodup
  sys:(a==sysModules)=false
theorem nL(x:Str):∀(ms:List (Str × xM)),valueAt (ms.map fun p=>((Sum.inr p.1:jW),Value.ref p.2)) (Sum.inr x)=(ms.lookup x).map Value.ref
  | []=>rfl
  | (y,a)::r=>by
    rw [PX,Pw]
    unfold valueAt
    rw [List.find?_cons]
    cases c:x==y with
    | true=>
      rw [show decide ((Sum.inr y:jW)=Sum.inr x)=true from decide_eq_true (by rw [eq_of_beq c])]
      rfl
    | false=>
      rw [show decide ((Sum.inr y:jW)=Sum.inr x)=false from decide_eq_false (fun z=>by rw [Sum.inr.inj z] at c;simp at c)]
      exact nL x r
theorem HG.dict{P:OZ}{w:OW}{K:OU}{a:xM}{ms:List (Str × xM)}(T:HG K w a ms){h:OY}(X:K.In h):h.DictOf (fH P w) a (ms.map fun p=>((Sum.inr p.1:jW),Value.ref p.2)):=by
  obtain⟨es,n,h1,h2⟩:=T.at_
  refine⟨_,es,n,X a _ h1,⟨rfl,rfl,rfl⟩,rfl,fun e he=>?_,?_,?_⟩
  · have:∀{l:List Rq} {ms:List (Str × xM)},Paired (fun(e:Rq) (p:Str × xM)=>e.hash=hashStr w p.1∧(∃t,e.key=.str p.1 t)∧e.val=.ref p.2) l ms→∀e∈l,∃k:jW,(fH P w).is k e.key=true∧e.hash=(fH P w).hash k:=by
      intro l ms h
      induction h with
      | nil=>intro e he;cases he
      | @cons e p l ms h _ ih=>
        intro e' he
        rcases OP he with rfl | he
        · obtain⟨g1,⟨t,g2⟩,_⟩:=h
          exact⟨Sum.inr p.1,by rw [g2];exact kG p.1 t,g1⟩
        · exact ih e' he
    exact this h2 e (by simpa using he)
  · have:∀{l:List Rq} {ms:List (Str × xM)},Paired (fun(e:Rq) (p:Str × xM)=>e.hash=hashStr w p.1∧(∃t,e.key=.str p.1 t)∧e.val=.ref p.2) l ms→Pairs (fH P w) l (ms.map fun p=>((Sum.inr p.1:jW),Value.ref p.2)):=by
      intro l ms h
      induction h with
      | nil=>exact .nil
      | @cons e p l ms h _ ih=>
        obtain⟨_,⟨t,g2⟩,g3⟩:=h
        refine .cons (kv:=(_,_)) ?_ g3 ih
        show uT (Sum.inr p.1) e.key=true
        rw [g2];exact kG _ t
    exact this h2
  · have:(ms.map fun p=>((Sum.inr p.1:jW),Value.ref p.2)).map (·.1)=(ms.map (·.1)).map Sum.inr:=by simp [Sg,Function.comp]
    rw [this]
    exact List.pairwise_map.mpr (T.nod.imp fun h z=>h (Sum.inr.inj z))
section
variable{X:Cx}{K:OU}{C:xM}{a b:OV}{fa:FE}{cA:List Pa}{pos p p1 p2 p3:Pos}{W:List Nat}
def BY(ks:List Str)(fa:FE):FT:=fun e=>(fa e).bind fun p=>(bP p.1).map fun y=>(ks.any fun k=>y==k,p.2)
theorem uY(y:Str):∀(ms:List (Str × xM)),(ms.lookup y).isSome=(ms.map (·.1)).any fun k=>y==k
  | []=>rfl
  | (k,a)::r=>by
    rw [PX,Pw,SO]
    cases c:y==k with
    | true=>rfl
    | false=>simpa [c] using uY y r
theorem G_{x:Str}{q:xM}{ms:List (Str × xM)}{ks:List Str}(hK:X.K=K)(T:HG K X.w q ms)(hks:ms.map (·.1)=ks)(ha:PE X a (fE K fa))(hg:Gl X x)(hm:X.mg x=some (.ref q))(hd:(x==("__debug__":Str))=false)(hb:QC .In (.Name x p)=false):PT X (.Compare a [.In] [.Name x p] pos) (fT K (BY ks fa)):=by
  subst hK
  subst hks
  have pc:PC X .In a (.Name x p) (fun σ H Q=>fE X.K fa σ H fun v H1=>∃y:Str,v=.str y∧Q (.bl (ms.lookup y).isSome) H1):=by
    intro pins s σ H Q I h
    refine cR (ha pins s σ H _ I h) fun iv s1 ⟨v,H1,I1,r1,y,ey,q1⟩=>mv I1 hg hm ?_ hd
    subst ey
    obtain⟨t,rfl⟩:=r1
    refine wpAny_in_of (knd:=fH X.prog X.w) (k:=Sum.inr y) (show(fH X.prog X.w).is (Sum.inr y) (.str y t)=true from kG y t) T.sys (T.dict I1.kIn).mapOf ?_
    rw [nL,Option.isSome_map]
    exact⟨.bl _,H1,I1.tok _,rfl,q1⟩
  refine(G0 pc hb).mono fun σ H Q h=>?_
  obtain⟨F,e,bb,e',R,hf,q⟩:=h
  unfold BY at hf
  obtain⟨⟨r,e1⟩,h1,hf⟩:=OK hf
  obtain⟨y,h2,hf⟩:=OL hf
  cases hf
  exact⟨F,e,r,_,R,h1,fun F1 H1 v X1 R1 A1=>⟨y,dO A1 h2,_,rfl,by rw [uY];exact q F1 H1 X1 R1⟩⟩
def Ki(X:Cx)(k:Nat)(f:xM)(m:FM):Prop:=∃fd ps,aF X.prog X.w X.K X.mg X.base bS k f fd ps (el X.K 2 m)∧cS X.K fd ps []∧Rh X.K (.ref f)=true
def yg(i il iq:Nat)(qs:List (Str × FM)):XS:=fun x=>match x.1[il]? with
  | some (some (.d (.str y)))=>(qs.lookup y).bind fun m=>if iP [iq] x.2=true∧iq < x.1.length then bO (oR 2 m (ce (cf i "web") (ce (cf i "run") jg))) (x.1.set iq none,x.2) else none
  | _=>none
theorem Bs{i il iq k:Nat}{x y z:Str}{qa:xM}{ms:List (Str × xM)}{qs:List (Str × FM)}{e1 e2:OV}{pos' rp cp:Pos}(hK:X.K=K)(T:HG K X.w qa ms)(hr:bG k X.A)(hq:∀(u:Str) (m:FM),qs.lookup u=some m→∃f,ms.lookup u=some f∧Ki X k f m)
    (hg:Gl X x)(hm:X.mg x=some (.ref qa))(hd:(x==("__debug__":Str))=false)(hl:PE X (.Name y p1) (oQ il))(hN:X.N.Nodup)(hi:X.N[iq]?=some z)(hz:zx X.env.scope z)(hsw:QO (.Subscript (.Name x p) (.Name y p1) p2) (some (.Name z pos')) pos.line X.env=pure false)(hf:X.fn z=true∨X.env.scope.names.lookup z=some .local)
    (hv:PE X (.Name z p3) (oQ iq))(ha:PA X [e1,e2] (CG K C (ce (cf i "web") (ce (cf i "run") jg))))(hst:Pd [e1,e2] X.env=(false,Pf e1 X.env)::Pd [e2] X.env)(hpl:(Po cp (Pd [e2] X.env)).any (·.1)=false):
    jj X [.Assign [.Name z pos'] (.Subscript (.Name x p) (.Name y p1) p2) pos,.Return (some (.Call (.Name z p3) [e1,e2] [] cp)) rp] (nW K C (yg i il iq qs) [iq]):=by
  subst hK
  have look:PE X (.Subscript (.Name x p) (.Name y p1) p2) (fun σ H Q=>∃(u:Str) (f:xM),σ[il]?=some (some (.str u))∧ms.lookup u=some f∧Q (.ref f) H):=by
    intro pins s σ H Q I h
    obtain⟨u,f,h1,h2,q⟩:=h
    refine DZ PySem.F.slot_dict_getitem.lookup (fun _ _=>rfl) (mv I hg hm (cR (hl pins s σ H (fun v H1=>v=.str u∧H1=H) I ⟨.str u,h1,rfl,rfl⟩) fun iv s1 ⟨v,H1,I1,r1,ev,eh⟩=>?_) hd)
    subst ev
    subst eh
    obtain⟨t,rfl⟩:=r1
    have dd:=T.dict (P:=X.prog) I1.kIn
    refine⟨dd.typeIs,wpAny_getItem_of (knd:=fH X.prog X.w) (k:=Sum.inr u) (show(fH X.prog X.w).is (Sum.inr u) (.str u t)=true from kG u t) dd.mapOf (v:=.ref f) (by rw [nL,h2];rfl) ⟨.ref f,H1,I1.tok _,rfl,q⟩⟩
  have call:PE X (.Call (.Name z p3) [e1,e2] [] cp) (fun σ H Q=>∃f m,σ[iq]?=some (some (.ref f))∧Ki X k f m∧qL (el X.K 2 m) [] E0 (CG X.K C (ce (cf i "web") (ce (cf i "run") jg))) σ H Q):=by
    intro pins s σ H Q I h
    obtain⟨f,m,h1,⟨fd,ps,G,hb,hk⟩,q⟩:=h
    refine RY (cR (hv pins s σ H (fun v H1=>v=.ref f∧H1=H) I ⟨.ref f,h1,rfl,rfl⟩) fun fv s1 ⟨v,H1,I1,r1,ev,eh⟩=>?_)
    subst ev
    subst eh
    obtain rfl:fv=Value.ref f:=r1
    refine Sx (h₀:=X.base) I1.ok.mod.kin hk (cR (ha cp pins s1 σ H1 _ I1 q) fun us s2 ⟨vs,H2,I2,r,q2⟩=>⟨I2.kIn,?_⟩) hst hpl
    exact ua G hr hb .nil rX I2 r q2
  refine(kc (qi hN hi hz look hsw hf) (o5 (t5 call))).mono fun D σ H h=>?_
  obtain⟨F,⟨e,ob⟩,fp,fl,R,hf,q⟩:=h
  unfold yg at hf
  split at hf
  case h_2=>cases hf
  case h_1 u hu=>
  obtain⟨m,h1,hf⟩:=OK hf
  split at hf
  case isFalse=>cases hf
  case isTrue hc=>
  obtain⟨hw,hlt⟩:=hc
  obtain⟨⟨d,x1⟩,h3,hf⟩:=OL hf
  cases hf
  obtain⟨f,g1,g2⟩:=hq u m h1
  obtain⟨v,c1,c2⟩:=R.rel.dat _ _ hu
  rw [js.mp c2] at c1
  refine⟨u,f,c1,g1,?_⟩
  have hw':=p_ hw
  have ne:∀p∈ob,iq≠p.1.slot:=fun p hp z=>hw' p hp (by rw [z];simp)
  have R2:aU X.K C F H (σ.set iq (some (.ref f))) (e.set iq none) ob fp:=⟨(R.rel.drop iq).poke _,fun p hp=>by
    obtain⟨d1,w,d2,d3⟩:=R.obs p hp
    exact⟨by rw [Pm (ne p hp)];exact d1,w,d2.mono (aq.refl _) (Pm (ne p hp)),d3⟩,R.dis,fun a ha z=>by
      obtain⟨j,zj⟩:=z
      exact R.own a ha (bA.drop ⟨j,jv.mp zj⟩)⟩
  have Y:bw [iq] σ F H e (Fo ob fp) (σ.set iq (some (.ref f))) F H (e.set iq none) (Fo ob fp):=⟨aq.refl _,fun _ z=>z,fun _ _ z _ _ _=>z,fun _ vs z=>⟨vs,z⟩,fun _ _ z _ _=>z,fun a z=>.inl (z.imp_left fun⟨j,zj⟩=>bA.drop ⟨j,jv.mp zj⟩),fun j n=>Pm (fun z=>n (by simp [z])),fun _ _ z _ _ _=>z⟩
  refine⟨f,m,Qb (by rw [R.rel.len];exact hlt),g2,yu ⟨F,(e.set iq none,ob),fp,d,x1,R2,h3,fun F1 H1 w fp1 X1 R1 A1=>?_⟩⟩
  exact q F1 H1 _ w fp1 (Y.trans (X1.mono fun j h=>by cases h)) R1 A1
end
def Aw(m:MX):FM:=fun as=>if ww (as.map some)=true then(m (as.map some,[])).map fun z=>(.d z.1,as) else none
section
variable{P:OZ}{w:OW}{K:OU}{C:xM}{mg:Str→Option OR}{base:OY}
theorem Gn{k n:Nat}{f:xM}{fd:Pj}{ps:List Str}{m:MX}(G:aF P w K mg base bS k f fd ps (kR K C n m)):aF P w K mg base bS k f fd ps (el K n (Aw m)):=G.imp fun vs H Q E h=>by
  obtain⟨hl,F,as,r,as',R,nN,hm,hn,q⟩:=h
  unfold Aw at hm
  split at hm
  case isFalse=>cases hm
  case isTrue hd=>
  obtain⟨⟨d,oc⟩,h1,hm⟩:=OL hm
  cases hm
  refine⟨hl,F,(as.map some,[]),fun _=>[],d,oc,⟨R,(fun p hp=>by cases hp),(fun p hp=>by cases hp),(fun a ⟨p,hp,_⟩=>by cases hp)⟩,hd,h1,fun F' H' v fp' X R' A=>?_⟩
  have nS:∀a,¬Fo ([]:jk) (fun _=>[]) a:=fun a ⟨p,hp,_⟩=>by cases hp
  exact q F' H' v ⟨X.sf,X.dom,fun a vs h1 h2 h3=>X.fr a vs h1 h2 h3 (nS a),X.lst,fun a o h1 h2=>X.tmp a o h1 h2 (nS a),fun _=>Iff.rfl,fun a z=>absurd z (cP hd),fun a o h1 h2 h3=>X.fd a o h1 h2 h3 (nS a)⟩ R'.rel A
end
section
variable{K:OU}{C:xM}{W:List Nat}{F H F' H':Hp}{σ σ':L2.St}{e e':En}{ob:jk}{fp:Lc→List xM}{i:Nat}{S S' T:xM→Prop}
theorem bw.addS(X:bw W σ F H e S σ' F' H' e' S')(hT:∀a,T a→¬bA σ e H a∧¬S a∧H a≠none):bw W σ F H e (fun a=>S a∨T a) σ' F' H' e' fun a=>S' a∨T a:=
  ⟨X.sf,X.dom,fun a vs h1 h2 h3 h4=>X.fr a vs h1 h2 h3 fun z=>h4 (.inl z),X.lst,fun a o h1 h2 h3=>X.tmp a o h1 h2 fun z=>h3 (.inl z),fun a z=>by
    rcases z with z | z | z
    · exact(X.own a (.inl z)).imp_left fun w=>w.imp_right .inl
    · exact(X.own a (.inr z)).imp_left fun w=>w.imp_right .inl
    · exact .inl (.inr (.inr z)),X.wr,fun a m h1 h2 h3 h4=>X.fd a m h1 h2 h3 fun z=>h4 (.inl z)⟩
theorem iz.keep{o:Ob}{v:V}{fs:List xM}(h:iz K C F H o v fs)(X:bw W σ F H e S σ' F' H' e' S')(hn:∀a∈fs,¬bA σ e H a∧¬S a):iz K C F' H' o v fs:=h.mono X.sf (fun a ha=>by
    obtain⟨g1,u,g2,g3⟩:=h.at a ha
    cases u with
    | ins c d fs=>exact X.fd a ⟨_,rfl⟩ g1 g2 (hn a ha).1 (hn a ha).2
    | lst vs=>exact X.fr a vs g1 g2 (hn a ha).1 (hn a ha).2
    | _=>cases g3) fun a ha=>by
    obtain⟨g1,u,g2,g3⟩:=h.at a ha
    rw [g2];exact X.tmp a u g2 (hn a ha).1 (hn a ha).2
theorem aU.later(R:aU K C F H σ e ob fp)(sF:aq F F')(sm:aq F' H')(dom:∀a,H' a=none→H a=none)(tmp:∀a u,H a=some u→H' a=some u)
    (fr:∀a,F a=none→(∃u,H a=some u∧(kept u=true∨zz u=true))→F' a=none)(hT:∀a,T a→H a=none):
    bw [] σ F H e (Fo ob fp) σ F' H' e (fun a=>Fo ob fp a∨T a)∧aU K C F' H' σ e ob fp∧∀a,T a→¬Fo ob fp a∧¬bA σ e H' a:=by
  obtain⟨R2,o2⟩:=R.rel.keep sF sm (fun a h=>by
    obtain⟨j,hj⟩:=h
    obtain⟨h1,vs,h2⟩:=R.rel.fpAt hj
    exact fr a h1 ⟨_,h2,.inl rfl⟩) (fun a o h q=>tmp a o q)
  refine⟨⟨sF,dom,fun a vs h1 h2 _ _=>fr a h1 ⟨_,h2,.inl rfl⟩,fun a vs h=>⟨vs,tmp a _ h⟩,fun a u h _ _=>tmp a u h,fun a z=>?_,fun j n=>rfl,fun a m h1 h2 _ _=>fr a h1 ⟨_,h2,.inr m.2⟩⟩,⟨R2,fun p hp=>?_,R.dis,fun a ha z=>R.own a ha ((o2 a).mp z)⟩,fun a ha=>⟨fun z=>R.hn a z (hT a ha),fun z=>R.rel.ownH a ((o2 a).mp z) (hT a ha)⟩⟩
  · rcases z with z | z | z
    · exact .inl (.inl ((o2 a).mp z))
    · exact .inl (.inr z)
    · exact .inr (hT a z)
  · obtain⟨c1,u,c2,c3⟩:=R.obs p hp
    refine⟨c1,u,c2.mono sF rfl,c3.mono sF (fun a ha=>?_) fun a ha=>?_⟩
    · obtain⟨g1,w,g2,g3⟩:=R.at ⟨p,hp,ha⟩
      exact fr a g1 ⟨w,g2,.inl g3⟩
    · obtain⟨g1,w,g2,g3⟩:=R.at ⟨p,hp,ha⟩
      rw [g2];exact tmp a w g2
end
abbrev XN:=EX→Option (Ob × EX)
abbrev Kr:=EX→Option (List Ob × EX)
abbrev Nw:=Ob × V × List xM
def LC(ts:List Nw)(a:xM):Prop:=∃t∈ts,a∈t.2.2
def Kv(K:OU)(C:xM)(f:XN):TE:=fun σ H Q=>∃F x fp o x',aU K C F H σ x.1 x.2 fp∧f x=some (o,x')∧∀F' H' v fs fp',bw [] σ F H x.1 (Fo x.2 fp) σ F' H' x'.1 (fun a=>Fo x'.2 fp' a∨a∈fs)→aU K C F' H' σ x'.1 x'.2 fp'→iz K C F' H' o v fs→(∀a,a∈fs→¬Fo x'.2 fp' a∧¬bA σ x'.1 H' a)→Q v H'
structure LB (K:OU) (C:xM) (F H:Hp) (σ:L2.St) (e:En) (S:xM→Prop) (ts:List Nw):Prop where
  at_:∀t∈ts,iz K C F H t.1 t.2.1 t.2.2
  no:∀a,LC ts a→¬S a∧¬bA σ e H a
  dis:ts.Pairwise fun t s=>∀a∈t.2.2,a∉s.2.2
section
variable{X:Cx}{K:OU}{C:xM}{fa fb:XE}{fn:XN}{fs:Kr}{a b:OV}{es:List OV}{pos p p2:Pos}{i:Nat}
end
section
variable{X:Cx}{K:OU}{C:xM}{fa fb:XE}{fn:XN}{fs:Kr}{a b:OV}{es:List OV}{pos p p2:Pos}{i:Nat}
end
section
variable{X:Cx}{K:OU}{C:xM}{fs:Kr}{es:List OV}{pos:Pos}{i:Nat}
end
section
variable{X:Cx}{K:OU}{C:xM}{fb:FE}{fs:XR}{a b:OV}{es:List OV}{pos:Pos}{i:Nat}
end
section
variable{K:OU}{C:xM}{W:List Nat}{F H F' H' F2 F3:Hp}{σ σ':L2.St}{e e':En}{ob:jk}{fp:Lc→List xM}{i:Nat}{S S' T:xM→Prop}
theorem aU.later2(R:aU K C F H σ e ob fp)(sF:aq F F')(sm:aq F' H')(dom:∀a,H' a=none→H a=none)(lst:∀a vs,H a=some (.lst vs)→∃vs',H' a=some (.lst vs'))(tmp:∀a u,H a=some u→¬T a→H' a=some u)
    (fr:∀a,F a=none→(∃u,H a=some u∧(kept u=true∨zz u=true))→¬T a→F' a=none)(hT:∀a,T a→¬Fo ob fp a∧¬bA σ e H a):
    bw [] σ F H e (fun a=>Fo ob fp a∨T a) σ F' H' e (Fo ob fp)∧aU K C F' H' σ e ob fp:=by
  obtain⟨R2,o2⟩:=R.rel.keep sF sm (fun a h=>by
    have nT:¬T a:=fun z=>(hT a z).2 h
    obtain⟨j,hj⟩:=h
    obtain⟨h1,vs,h2⟩:=R.rel.fpAt hj
    exact fr a h1 ⟨_,h2,.inl rfl⟩ nT) (fun a o h q=>tmp a o q fun z=>(hT a z).2 h)
  refine⟨⟨sF,dom,fun a vs h1 h2 _ h4=>fr a h1 ⟨_,h2,.inl rfl⟩ fun z=>h4 (.inr z),lst,fun a u h _ h3=>tmp a u h fun z=>h3 (.inr z),fun a z=>?_,fun j n=>rfl,fun a m h1 h2 _ h4=>fr a h1 ⟨_,h2,.inr m.2⟩ fun z=>h4 (.inr z)⟩,⟨R2,fun p hp=>?_,R.dis,fun a ha z=>R.own a ha ((o2 a).mp z)⟩⟩
  · rcases z with z | z
    · exact .inl (.inl ((o2 a).mp z))
    · exact .inl (.inr (.inl z))
  · obtain⟨c1,u,c2,c3⟩:=R.obs p hp
    have nT:∀a∈fp p.1,¬T a:=fun a ha z=>(hT a z).1 ⟨p,hp,ha⟩
    refine⟨c1,u,c2.mono sF rfl,c3.mono sF (fun a ha=>?_) fun a ha=>?_⟩
    · obtain⟨g1,w,g2,g3⟩:=R.at ⟨p,hp,ha⟩
      exact fr a g1 ⟨w,g2,.inl g3⟩ (nT a ha)
    · obtain⟨g1,w,g2,g3⟩:=R.at ⟨p,hp,ha⟩
      rw [g2];exact tmp a w g2 (nT a ha)
theorem a_.thin(R:a_ K F2 H σ e)(hd:∀a o,F2 a=some o→(∀xs,o≠.lst xs)→F3 a=some o)(sub:∀a,F2 a=none→F3 a=none)(sm:aq F3 H)(hf:∀(j:Nat) (s:Sv),e[j]?=some (some s)→z0 s=true∨∃d v,s=.d d∧σ[j]?=some (some v)∧DA K F3 d v):a_ K F3 H σ e:=by
  refine⟨sm,R.len,fun j d q=>?_,fun j xs q=>?_,fun j yss q=>?_,R.fp⟩
  · obtain⟨v,h1,h2⟩:=R.dat j d q
    rcases hf j _ q with w | ⟨d',v',w1,w2,w3⟩
    · exact⟨v,h1,DA.dropL hd w h2⟩
    · cases w1;exact⟨v',w2,w3⟩
  · obtain⟨l',vs,h1,h2,h3,h4⟩:=R.own j xs q
    rcases hf j _ q with w | ⟨d',v',w1,w2,w3⟩
    · exact⟨l',vs,h1,sub l' h2,h3,aP.dropL hd w h4⟩
    · cases w1
  · obtain⟨l',bs',h1,h2,h3,h4,h5,h6,h7⟩:=R.nst j yss q
    refine⟨l',bs',h1,sub l' h2,h3,h4,h5,h6,fun k b ys q1 q2=>?_⟩
    obtain⟨h8,us,h9,h10⟩:=h7 k b ys q1 q2
    have fy:cq ys=true:=by
      rcases hf j _ q with w | ⟨d',v',w1,w2,w3⟩
      · simp only [z0,PY] at w
        exact w ys (OQ q2)
      · cases w1
    exact⟨sub b h8,us,h9,aP.dropL hd fy h10⟩
theorem gH.dropL(hd:∀a o,F2 a=some o→(∀xs,o≠.lst xs)→F3 a=some o):∀{fs:List (Str × OT)} {gs:List (Str × V)},(fs.all fun p=>fU p.2)=true→gH K F2 fs gs→gH K F3 fs gs
  | [],_,_,q=>q
  | p::r,_,hf,⟨v,hs,e,a,b⟩=>by
    rw [List.all_cons,PV] at hf
    exact⟨v,hs,e,a.dropL hd hf.1,gH.dropL hd hf.2 b⟩
def rK:Ob→Bool
  | .dk fs=>fs.all fun p=>fU p.2
  | .st xs ys=>cq xs&&cq ys
theorem iz.dropL{o:Ob}{v:V}{as:List xM}(h:iz K C F2 H o v as)(hd:∀a o,F2 a=some o→(∀xs,o≠.lst xs)→F3 a=some o)(sub:∀a,F2 a=none→F3 a=none)(hf:rK o=true):iz K C F3 H o v as:=by
  cases o with
  | dk fs=>
    obtain⟨p,dx,gs,rfl,rfl,h1,h2,h3⟩:=h
    exact⟨p,dx,gs,rfl,rfl,sub p h1,h2,gH.dropL hd hf h3⟩
  | st xs ys=>
    obtain⟨t,l,m,vs,us,rfl,rfl,h0,h1,h2,h3,h4,h5,h6,h7⟩:=h
    simp only [rK,PV] at hf
    refine⟨t,l,m,vs,us,rfl,rfl,h0,?_,sub l h2,sub m h3,h4,h5,h6.dropL hd hf.1,h7.dropL hd hf.2⟩
    rcases h1 with (h1 | ⟨o,h1⟩) | h1
    · exact .inl (.inl (hd t _ h1 fun xs z=>by cases z))
    · exact .inl (.inr ⟨o,hd t _ h1 fun xs z=>by cases z⟩)
    · exact .inr h1
def rg(W:List Nat)(i:Nat)(e:En)(y:EX):Prop:=(∀(j:Nat) (s:Sv),j≠i→y.1[j]?=some (some s)→z0 s=true∨(j∉W∧e[j]?=some (some s)∧∃d,s=.d d))∧∀p∈y.2,∃j,p.1=.s j∧j≠i∧rK p.2=true
theorem aU.view{xs ys:List OT}(R:aU K C F H σ e ob fp)(hl:ob.lookup (.s i)=some (.st xs ys)):
    ∃F1,aU K C F1 H σ (e.set i (some (.d (.tuple [.list xs,.list ys])))) (jG i ob) fp∧∀(W:List Nat) (F2 H2:Hp) (σ2:L2.St) (y:EX) (fp2:Lc→List xM),i∉W→bw W σ F1 H (e.set i (some (.d (.tuple [.list xs,.list ys])))) (Fo (jG i ob) fp) σ2 F2 H2 y.1 (Fo y.2 fp2)→aU K C F2 H2 σ2 y.1 y.2 fp2→rg W i e y→
      ∃F3 fp3,bw W σ F H e (Fo ob fp) σ2 F3 H2 (y.1.set i none) (Fo ((.s i,.st xs ys)::y.2) fp3)∧aU K C F3 H2 σ2 (y.1.set i none) ((.s i,.st xs ys)::y.2) fp3∧∀d v,fU d=true→DA K F2 d v→DA K F3 d v:=by
  have hm:=cz hl
  obtain⟨c1,v,g1,g2⟩:=R.obs _ hm
  obtain⟨t,l,m,vs,us,rfl,ha,hlm,ht,fl0,fm0,hHl,hHm,dx,dy⟩:=g2
  dsimp only at c1 ha
  have g1:σ[i]?=some (some (.ref t)):=g1
  have hlt:i < e.length:=(OM c1).1
  have inl:Fo ob fp l:=⟨_,hm,by rw [ha];simp⟩
  have inm:Fo ob fp m:=⟨_,hm,by rw [ha];simp⟩
  let F1:Hp:=bE (bE F l (.lst vs)) m (.lst us)
  have f1l:F1 l=some (.lst vs):=by show bE (bE F l _) m _ l=_;rw [ax hlm,av]
  have f1m:F1 m=some (.lst us):=av
  have f1o:∀a,a≠l→a≠m→F1 a=F a:=fun a n1 n2=>by show bE (bE F l _) m _ a=_;rw [ax n2,ax n1]
  have sF:aq F F1:=fun a u z=>by
    have n1:a≠l:=fun w=>by rw [w,fl0] at z;cases z
    have n2:a≠m:=fun w=>by rw [w,fm0] at z;cases z
    rw [f1o a n1 n2];exact z
  have sm1:aq F1 H:=fun a u z=>by
    by_cases n1:a=l
    · subst n1;rw [f1l] at z;cases z;exact hHl
    by_cases n2:a=m
    · subst n2;rw [f1m] at z;cases z;exact hHm
    rw [f1o a n1 n2] at z;exact R.rel.sm a u z
  obtain⟨Ra,oa⟩:=R.rel.keep sF sm1 (fun a h=>by
    have n1:a≠l:=fun w=>R.own l inl (w ▸ h)
    have n2:a≠m:=fun w=>R.own m inm (w ▸ h)
    obtain⟨j,hj⟩:=h
    rw [f1o a n1 n2];exact(R.rel.fpAt hj).1) (fun a o _ q=>q)
  have dD:DA K F1 (.tuple [.list xs,.list ys]) (.ref t):=cN.mpr ⟨t,[.ref l,.ref m],rfl,sF.tup ht,by
    simp only [aP]
    exact⟨.ref l,[.ref m],rfl,et.mpr ⟨l,vs,rfl,iN.of f1l,dx.mono sF⟩,.ref m,[],rfl,et.mpr ⟨m,us,rfl,iN.of f1m,dy.mono sF⟩,rfl⟩⟩
  obtain⟨Rb,ob2⟩:=Ra.setD i dD
  have es:σ.set i (some (.ref t))=σ:=by
    obtain⟨w1,w2⟩:=OM g1
    rw [←w2];exact List.set_getElem_self w1
  rw [es] at Rb ob2
  have mo:∀{p},p∈jG i ob→p∈ob∧p.1.slot≠i:=fun{p} h=>by
    obtain⟨h1,h2⟩:=QJ.mp h
    exact⟨h1,by simpa using h2⟩
  have sub:∀a,Fo (jG i ob) fp a→Fo ob fp a:=fun a ⟨p,hp,ha⟩=>⟨p,(mo hp).1,ha⟩
  have nlm:∀p∈jG i ob,∀a∈fp p.1,a≠l∧a≠m:=fun p hp a hb=>by
    have:=R.dis p (mo hp).1 _ hm (fun z=>(mo hp).2 (by rw [z];rfl)) a hb
    rw [ha] at this
    simp at this
    exact this
  refine⟨F1,⟨Rb,fun p hp=>?_,fun p hp q hq=>R.dis p (mo hp).1 q (mo hq).1,fun a h z=>R.own a (sub a h) ((oa a).mp (ob2 a z))⟩,?_⟩
  · obtain⟨d1,u,d2,d3⟩:=R.obs p (mo hp).1
    exact⟨by rw [Pm (Pt (mo hp).2)];exact d1,u,d2.mono sF rfl,d3.mono sF (fun a h=>by rw [f1o a (nlm p hp a h).1 (nlm p hp a h).2];exact(d3.at a h).1) fun _ _=>rfl⟩
  intro W F2 H2 σ2 y fp2 hi X2 R2 hflat
  obtain⟨hf1,hf2⟩:=hflat
  have f2l:=X2.sf _ _ f1l
  have f2m:=X2.sf _ _ f1m
  let F3:Hp:=fun a=>if a=l∨a=m then none else F2 a
  have pos:∀a,a=l∨a=m→F3 a=none:=fun a h=>if_pos h
  have neg:∀a,¬(a=l∨a=m)→F3 a=F2 a:=fun a h=>if_neg h
  have hd:∀a o,F2 a=some o→(∀xs,o≠.lst xs)→F3 a=some o:=fun a o z n=>by
    rw [neg a]
    · exact z
    · rintro(w | w)
      · rw [w,f2l] at z;cases z;exact n _ rfl
      · rw [w,f2m] at z;cases z;exact n _ rfl
  have sub3:∀a,F2 a=none→F3 a=none:=fun a z=>by
    by_cases w:a=l∨a=m
    · exact pos a w
    · rw [neg a w];exact z
  have to2:∀a u,F3 a=some u→F2 a=some u:=fun a u z=>by
    by_cases w:a=l∨a=m
    · rw [pos a w] at z;cases z
    · rw [neg a w] at z;exact z
  have s3:aq F F3:=fun a u z=>by
    rw [neg a]
    · exact X2.sf _ _ (sF a u z)
    · rintro(w | w)
      · rw [w,fl0] at z;cases z
      · rw [w,fm0] at z;cases z
  have hs2:σ2[i]?=some (some (.ref t)):=by rw [X2.wr i hi];exact g1
  have hly:i < y.1.length:=by rw [←R2.rel.len];exact(OM hs2).1
  have gj:∀j,j≠i→(y.1.set i none)[j]?=y.1[j]?:=fun j n=>Pm (Pt n)
  have R3:a_ K F3 H2 σ2 (y.1.set i none):=(R2.rel.drop i).thin hd sub3 (fun a u z=>R2.rel.sm a u (to2 a u z)) fun j s q=>by
    by_cases w:j=i
    · rw [w,Qb hly] at q;cases q
    · rw [gj j w] at q
      rcases hf1 j s w q with z | ⟨z1,z2,d,rfl⟩
      · exact .inl z
      · obtain⟨v,u1,u2⟩:=R.rel.dat j d z2
        exact .inr ⟨d,v,rfl,by rw [X2.wr j z1];exact u1,u2.mono s3⟩
  have inO:∀{p},p∈y.2→∃j,p.1=.s j∧j≠i∧rK p.2=true:=fun{p} hp=>hf2 p hp
  have nlm2:∀a,Fo y.2 fp2 a→¬(a=l∨a=m):=fun a h z=>by
    have:=(R2.at h).1
    rcases z with z | z
    · rw [z,f2l] at this;cases this
    · rw [z,f2m] at this;cases this
  let fp3:Lc→List xM:=fun c=>if c=.s i then [l,m] else fp2 c
  have f3o:∀{p},p∈y.2→fp3 p.1=fp2 p.1:=fun{p} hp=>by
    obtain⟨j,h1,h2,_⟩:=inO hp
    exact if_neg (by rw [h1];intro w;cases w;exact h2 rfl)
  have f3i:fp3 (.s i)=[l,m]:=if_pos rfl
  have o1:∀a,bA σ (e.set i (some (.d (.tuple [.list xs,.list ys])))) H a→bA σ e H a:=fun a z=>(oa a).mp (ob2 a z)
  have ow2:∀a,bA σ2 (y.1.set i none) H2 a→bA σ2 y.1 H2 a:=fun a z=>bA.drop z
  refine⟨F3,fp3,⟨s3,X2.dom,fun a ws h1 h2 h3 h4=>?_,X2.lst,fun a u h1 h3 h4=>X2.tmp a u h1 (fun z=>h3 (o1 a z)) fun z=>h4 (sub a z),fun a z=>?_,X2.wr,fun a d h1 h2 h3 h4=>?_⟩,⟨R3,fun p hp=>?_,fun p hp q hq hne a hA hB=>?_,fun a hA z=>?_⟩,fun d v hf h=>h.dropL hd hf⟩
  · have n1:a≠l:=fun w=>h4 (w ▸ inl)
    have n2:a≠m:=fun w=>h4 (w ▸ inm)
    exact sub3 a (X2.fr a ws (by rw [f1o a n1 n2];exact h1) h2 (fun z=>h3 (o1 a z)) fun z=>h4 (sub a z))
  · rcases z with z | ⟨p,hp,z⟩
    · exact(X2.own a (.inl (ow2 a z))).imp_left fun w=>w.imp (o1 a) (sub a)
    · rcases OP hp with rfl | hp
      · rw [f3i] at z
        rcases OP z with rfl | z
        · exact .inl (.inr inl)
        · rw [PJ] at z;subst z;exact .inl (.inr inm)
      · rw [f3o hp] at z
        exact(X2.own a (.inr ⟨p,hp,z⟩)).imp_left fun w=>w.imp (o1 a) (sub a)
  · have n1:a≠l:=fun w=>h4 (w ▸ inl)
    have n2:a≠m:=fun w=>h4 (w ▸ inm)
    exact sub3 a (X2.fd a d (by rw [f1o a n1 n2];exact h1) h2 (fun z=>h3 (o1 a z)) fun z=>h4 (sub a z))
  · rcases OP hp with rfl | hp
    · exact⟨Qb hly,.ref t,hs2,t,l,m,vs,us,rfl,f3i,hlm,s3.tup ht,pos l (.inl rfl),pos m (.inr rfl),R2.rel.sm _ _ f2l,R2.rel.sm _ _ f2m,dx.mono s3,dy.mono s3⟩
    · obtain⟨j,h1,h2,h3⟩:=inO hp
      obtain⟨d1,u,d2,d3⟩:=R2.obs p hp
      rw [h1] at d1 d2
      refine⟨by rw [h1];exact(gj j h2).trans d1,u,?_,?_⟩
      · rw [h1];exact d2
      · rw [f3o hp];exact d3.dropL hd sub3 h3
  · rcases OP hp with rfl | hp
    · rcases OP hq with rfl | hq
      · exact hne rfl
      · rw [f3i] at hA
        rw [f3o hq] at hB
        exact nlm2 a ⟨q,hq,hB⟩ (by simpa using hA)
    · rw [f3o hp] at hA
      rcases OP hq with rfl | hq
      · rw [f3i] at hB
        exact nlm2 a ⟨p,hp,hA⟩ (by simpa using hB)
      · rw [f3o hq] at hB
        exact R2.dis p hp q hq hne a hA hB
  · obtain⟨p,hp,hA⟩:=hA
    rcases OP hp with rfl | hp
    · rw [f3i] at hA
      obtain⟨j,hj⟩:=ow2 a z
      have:=(R2.rel.fpAt hj).1
      rcases OP hA with rfl | w
      · rw [f2l] at this;cases this
      · rw [PJ] at w;subst w;rw [f2m] at this;cases this
    · rw [f3o hp] at hA
      exact R2.own a ⟨p,hp,hA⟩ (ow2 a z)
def uB(i:Nat)(xs ys:List OT)(y:EX):EX:=(y.1.set i none,(.s i,.st xs ys)::y.2)
open Classical in
noncomputable def BK(W:List Nat)(i:Nat)(f:XS):XS:=fun x=>match x.2.lookup (.s i) with
  | some (.st xs ys)=>(f (x.1.set i (some (.d (.tuple [.list xs,.list ys]))),jG i x.2)).bind fun fl=>match fl with
    | .nx y=>if rg W i x.1 y then some (.nx (uB i xs ys y)) else none
    | .bk y=>if rg W i x.1 y then some (.bk (uB i xs ys y)) else none
    | .ct y=>if rg W i x.1 y then some (.ct (uB i xs ys y)) else none
    | .rt r y=>if rg W i x.1 y∧fU r=true then some (.rt r (uB i xs ys y)) else none
  | _=>none
theorem Bq{X:Cx}{st:Pa}{f:XS}(hi:i∉W)(h:PS X st (nW K C f W)):PS X st (nW K C (BK W i f) W):=h.mono fun D σ H h=>by
  obtain⟨F,x,fp,fl,R,hf,q⟩:=h
  unfold BK at hf
  split at hf
  case h_2=>cases hf
  case h_1 xs ys hl=>
  obtain⟨fl1,h1,hf⟩:=OK hf
  obtain⟨F1,R1,back⟩:=R.view hl
  refine⟨F1,_,fp,fl1,R1,h1,?_⟩
  cases fl1 with
  | rt r y=>
    dsimp only at hf
    split at hf
    case isFalse=>cases hf
    case isTrue hc=>
    cases hf
    intro F2 H2 σ2 v fp2 X2 R2 A2
    obtain⟨F3,fp3,X3,R3,d3⟩:=back W F2 H2 σ2 y fp2 hi X2 R2 hc.1
    exact q F3 H2 σ2 v fp3 X3 R3 (d3 _ _ hc.2 A2)
  | nx y=>
    dsimp only at hf
    split at hf
    case isFalse=>cases hf
    case isTrue hc=>
    cases hf
    intro F2 H2 σ2 fp2 X2 R2
    obtain⟨F3,fp3,X3,R3,d3⟩:=back W F2 H2 σ2 y fp2 hi X2 R2 hc
    exact q F3 H2 σ2 fp3 X3 R3
  | bk y=>
    dsimp only at hf
    split at hf
    case isFalse=>cases hf
    case isTrue hc=>
    cases hf
    intro F2 H2 σ2 fp2 X2 R2
    obtain⟨F3,fp3,X3,R3,d3⟩:=back W F2 H2 σ2 y fp2 hi X2 R2 hc
    exact q F3 H2 σ2 fp3 X3 R3
  | ct y=>
    dsimp only at hf
    split at hf
    case isFalse=>cases hf
    case isTrue hc=>
    cases hf
    intro F2 H2 σ2 fp2 X2 R2
    obtain⟨F3,fp3,X3,R3,d3⟩:=back W F2 H2 σ2 y fp2 hi X2 R2 hc
    exact q F3 H2 σ2 fp3 X3 R3
end
abbrev Cs:=EX→Option (Nat × EX)
abbrev MN:=En→Option Ob
def J2(K:OU)(C:xM)(f:Cs)(W:List Nat):TS:=fun D σ H=>∃F x fp i x' o,aU K C F H σ x.1 x.2 fp∧f x=some (i,x')∧x'.2.lookup (.s i)=some o∧
  ∀F' H' σ' v fp',bw W σ F H x.1 (Fo x.2 fp) σ' F' H' x'.1 (Fo x'.2 fp')→aU K C F' H' σ' x'.1 x'.2 fp'→σ'[i]?=some (some v)→D.rt v H'
def EZ(i:Nat):Cs:=fun x=>some (i,x)
def r_(f:XS)(g:Cs):Cs:=fun x=>(f x).bind fun fl=>match fl with
  | .nx x1=>g x1
  | _=>none
def Jx(K:OU)(C:xM)(n:Nat)(m:MN):Sp:=fun vs H Q _=>vs.length=n∧∃F e o,a_ K F H (vs.map some) e∧ww e=true∧m e=some o∧
  ∀F' H' v fs,bw [] (vs.map some) F H e (fun _=>False) (vs.map some) F' H' e (fun a=>a∈fs)→a_ K F' H' (vs.map some) e→iz K C F' H' o v fs→Q v H'
def C5(n k:Nat)(f:Cs):MN:=fun e=>if e.length=n then(f (e++Pi k none,[])).bind fun p=>p.2.2.lookup (.s p.1) else none
section
variable{X:Cx}{K:OU}{C:xM}{W W1 W2:List Nat}{st:Pa}{cA:List Pa}{f:XS}{g:Cs}{pos:Pos}{a:OV}{i:Nat}
theorem Br(he:PE X a (oQ i)):jj X [.Return (some a) pos] (J2 K C (EZ i) []):=(o5 (t5 he)).mono fun D σ H h=>by
  obtain⟨F,x,fp,j,x',o,R,hf,hl,q⟩:=h
  cases hf
  obtain⟨_,v,g1,_⟩:=R.obs _ (cz hl)
  exact⟨v,g1,q F H σ v fp bw.refl R g1⟩
theorem r8(h1:PS X st (nW K C f W1))(h2:jj X cA (J2 K C g W2)):jj X (st::cA) (J2 K C (r_ f g) (W1++W2)):=(kc h1 h2).mono fun D σ H h=>by
  obtain⟨F,x,fp,i,x',o,R,hf,ho,q⟩:=h
  unfold r_ at hf
  obtain⟨fl1,h1,hf⟩:=OK hf
  have s1:∀j,j∈W1→j∈W1++W2:=fun j h=>Qf.mpr (.inl h)
  have s2:∀j,j∈W2→j∈W1++W2:=fun j h=>Qf.mpr (.inr h)
  cases fl1 with
  | nx e1=>exact⟨F,x,fp,.nx e1,R,h1,fun F' H' σ' fp' X' R'=>⟨F',e1,fp',i,x',o,R',hf,ho,fun F2 H2 σ2 v fp2 X2 R2 hv=>q F2 H2 σ2 v fp2 ((X'.mono s1).trans (X2.mono s2)) R2 hv⟩⟩
  | bk e1=>cases hf
  | ct e1=>cases hf
  | rt r e1=>cases hf
end
section
variable{P:OZ}{w:OW}{K:OU}{C:xM}{mg:Str→Option OR}{base:OY}
theorem rh.okN{x qual:Str}{st:Pa}{f:xM}{fd:Pj}{N ps:List Str}{k n k0:Nat}{W:List Nat}{fb:Cs}(hF:rh K x qual st f fd)(S:aw N ps (ag st))(hn:ps.length=n)(hN:N.length=n+k0)
    (hb:∀(cdv:OR) (A:Pb) (outer:List Env) (s:OS) (H:Hp) (E:XK),bG k (A.deeper (envOfC qual (ag st) s.heap.objs.size f cdv))→jj (tu bS P w K mg base N qual (ag st) f cdv A outer s H E).nox (cm st) (J2 K C fb W)):
    aF P w K mg base bS (k+1) f fd ps (Jx K C n (C5 n k0 fb)):=by
  refine hF.ok S (fun vs H Q E q=>?_) fun cdv A outer s H vs Q E hr hsp=>⟨_,hb cdv A outer s H E hr,?_⟩
  · rw [hn];exact q.1
  · obtain⟨hl,F,e,o,R,hd,hm,q⟩:=hsp
    unfold C5 at hm
    split at hm
    case isFalse=>cases hm
    case isTrue la=>
    obtain⟨⟨i,y⟩,h1,hm⟩:=OK hm
    have hst:gG N vs=vs.map some++Pi k0 none:=by unfold gG;rw [hN,hl];congr 2;lia
    rw [hst]
    have no0:∀a,¬Fo ([]:jk) (fun _=>[]) a:=fun a ⟨p,hp,_⟩=>by cases hp
    refine⟨F,(e++Pi k0 none,[]),fun _=>[],i,y,o,⟨R.pad,fun p hp=>(by cases hp),fun p hp=>(by cases hp),fun a ha=>absurd ha (no0 a)⟩,h1,hm,fun F' H' σ' v fp' X' R' hv=>?_⟩
    have hmem:=cz hm
    obtain⟨_,u,g1,g2⟩:=R'.obs _ hmem
    have g1:σ'[i]?=some (some u):=g1
    rw [hv] at g1
    cases g1
    refine q F' H' v (fp' (.s i)) ⟨X'.sf,X'.dom,fun a us h1 h2 h3 _=>X'.fr a us h1 h2 (fun z=>h3 (dq.mp z)) (no0 a),X'.lst,fun a u h1 h2 _=>X'.tmp a u h1 (fun z=>h2 (dq.mp z)) (no0 a),fun a z=>?_,fun _ _=>rfl,fun a d h1 h2 h3 _=>X'.fd a d h1 h2 (fun z=>h3 (dq.mp z)) (no0 a)⟩ (EV R hd X'.sf R'.rel.sm) g2
    rcases z with z | z
    · exact absurd z (cP hd)
    · exact(X'.own a (.inr ⟨_,hmem,z⟩)).imp_left fun w=>w.elim (fun w=>.inl (dq.mp w)) fun w=>absurd w (no0 a)
end
def ny(n:Nat)(m:MN)(fs:XR):XN:=fun x=>(fs x).bind fun p=>if p.1.length=n∧(locs p.1).isEmpty=true then(m (ku p.1)).map fun o=>(o,p.2) else none
section
variable{X:Cx}{K:OU}{C:xM}{fa:XE}{fn:XN}{fs:XR}{a b:OV}{es:List OV}{pos apos p p2:Pos}{i:Nat}
theorem DO{x:Str}{st:Pa}{f:xM}{fd:Pj}{ps:List Str}{k n:Nat}{m:MN}{p:Pos}(h:ee X.K X.mg x st f fd ps)(G:aF X.prog X.w X.K X.mg X.base bS k f fd ps (Jx K C n m))(hr:bG k X.A)(ha:PA X (a::es) (zX K C fs))
    (hg:Gl X x)(hdb:(x==("__debug__":Str))=false)(he:Pd (a::es) X.env=(false,Pf a X.env)::Pd es X.env)(hpl:(Po pos (Pd es X.env)).any (·.1)=false):
    PE X (.Call (.Name x p) (a::es) [] pos) (Kv K C (ny n m fs)):=(Dv h G hr ha hg hdb he hpl).mono fun σ H Q h=>by
  obtain⟨F,x,fp,o,x',R,hf,q⟩:=h
  unfold ny at hf
  obtain⟨⟨rs,x1⟩,h1,hf⟩:=OK hf
  dsimp only at hf
  split at hf
  case isFalse=>cases hf
  case isTrue hc=>
  obtain⟨o',h2,hf⟩:=OL hf
  cases hf
  refine⟨F,x,fp,rs,_,R,h1,fun F1 H1 vs fp1 X1 R1 A1=>?_⟩
  show Jx K C n m (vs++[]) H1 Q _
  rw [Qo]
  refine⟨by rw [←A1.len];exact hc.1,F1,ku rs,o,t_ R1.rel.sm A1.len (fun k d hk=>A1.d hk),cx rs,h2,fun F' H' v ws X3 R3 A3=>?_⟩
  have nO:∀a,¬bA (vs.map some) (ku rs) H1 a:=fun a=>cP (cx rs)
  obtain⟨Y,R4,N4⟩:=R1.later (T:=fun a=>a∈ws) (F':=F') (H':=H') X3.sf R3.sm X3.dom (fun a u z=>X3.tmp a u z (nO a) fun z=>z)
    (fun a g1 ⟨u,g2,g3⟩=>by
      by_cases k:zz u=true
      · exact X3.fd a ⟨u,k⟩ g1 g2 (nO a) fun z=>z
      · rcases g3 with g3 | g3
        · cases u with
          | lst us=>exact X3.fr a us g1 g2 (nO a) fun z=>z
          | ins c d fs=>exact absurd rfl k
          | _=>cases g3
        · exact absurd g3 k) fun a ha=>(X3.own a (.inr ha)).elim (fun w=>w.elim (fun w=>absurd w (nO a)) fun w=>w.elim) id
  exact q F' H' v ws fp1 (X1.trans Y) R4 A3 N4
end
def DS:XS:=fun x=>some (.ct x)
theorem Bp{X:Cx}{K:OU}{C:xM}{pos:Pos}:PS X (.Continue pos) (nW K C DS []):=vq.mono fun D σ H h=>by
  obtain⟨F,x,fp,fl,R,hf,q⟩:=h
  cases hf
  exact q F H σ fp bw.refl R
abbrev Gr:=Ob ⊕ OT
abbrev XG:=EX→Option (List Gr × EX)
abbrev Gv:=V × List xM
def xE(ts:List Gv)(a:xM):Prop:=∃t∈ts,a∈t.2
def vY(K:OU)(C:xM)(F H:Hp):List Gr→List Gv→Prop
  | [],ts=>ts=[]
  | .inl o::r,ts=>∃v as s,ts=(v,as)::s∧iz K C F H o v as∧vY K C F H r s
  | .inr d::r,ts=>∃v s,ts=(v,[])::s∧DA K F d v∧vY K C F H r s
structure Ka (K:OU) (C:xM) (F H:Hp) (σ:L2.St) (e:En) (S:xM→Prop) (rs:List Gr) (ts:List Gv):Prop where
  at_:vY K C F H rs ts
  no:∀a,xE ts a→¬S a∧¬bA σ e H a
  dis:ts.Pairwise fun t s=>∀a∈t.2,a∉s.2
def Fy(K:OU)(C:xM)(f:XG):TA:=fun σ H Q=>∃F x fp rs x',aU K C F H σ x.1 x.2 fp∧f x=some (rs,x')∧∀F' H' ts fp',bw [] σ F H x.1 (Fo x.2 fp) σ F' H' x'.1 (fun a=>Fo x'.2 fp' a∨xE ts a)→aU K C F' H' σ x'.1 x'.2 fp'→Ka K C F' H' σ x'.1 (Fo x'.2 fp') rs ts→Q (ts.map (·.1)) H'
def Ie:XG:=fun x=>some ([],x)
def yI(fa:XE)(fs:XG):XG:=fun x=>(fa x).bind fun p=>(fs p.2).map fun q=>(.inr p.1::q.1,q.2)
def j4(nm:Str)(fn:XN)(fs:XG):XG:=fun x=>(fn x).bind fun p=>match p.1 with
  | .dk gs=>if (gs.lookup nm).isNone=true then(fs p.2).map fun q=>(.inl (.dk gs)::q.1,q.2) else none
  | _=>none
def ri:Nat→List Gr→List Ar
  | _,[]=>[]
  | k,.inl _::r=>.inl (.s k)::ri (k+1) r
  | k,.inr d::r=>.inr d::ri (k+1) r
def oG:Nat→List Gr→jk
  | _,[]=>[]
  | k,.inl o::r=>(.s k,o)::oG (k+1) r
  | k,.inr _::r=>oG (k+1) r
def Ib(ts:List Gv):Lc→List xM:=fun c=>match c with
  | .s k=>((ts[k]?).map (·.2)).getD []
  | .it _ _=>[]
theorem sR:∀{rs:List Gr} {k:Nat},(ri k rs).length=rs.length
  | [],_=>rfl
  | .inl _::r,k=>by simp [ri,sR (rs:=r)]
  | .inr _::r,k=>by simp [ri,sR (rs:=r)]
theorem nA{p:Lc × Ob}:∀{rs:List Gr} {k:Nat},p∈oG k rs→∃j,p.1=.s (k+j)∧rs[j]?=some (.inl p.2)
  | [],_,h=>by cases h
  | .inl o::r,k,h=>by
    rcases OP h with rfl | h
    · exact⟨0,rfl,rfl⟩
    · obtain⟨j,h1,h2⟩:=nA h
      exact⟨j+1,by rw [h1];congr 1;lia,by simpa using h2⟩
  | .inr d::r,k,h=>by
    obtain⟨j,h1,h2⟩:=nA (rs:=r) (k:=k+1) h
    exact⟨j+1,by rw [h1];congr 1;lia,by simpa using h2⟩
theorem vY.len{K:OU}{C:xM}{F H:Hp}:∀{rs:List Gr} {ts:List Gv},vY K C F H rs ts→rs.length=ts.length
  | [],ts,h=>by rw [show ts=[] from h];rfl
  | .inl o::r,_,⟨v,as,s,e,h1,h2⟩=>by rw [e];simp [vY.len h2]
  | .inr d::r,_,⟨v,s,e,h1,h2⟩=>by rw [e];simp [vY.len h2]
theorem vY.d{K:OU}{C:xM}{F H:Hp}{d:OT}:∀{rs:List Gr} {ts:List Gv} {k j:Nat},vY K C F H rs ts→(ri j rs)[k]?=some (.inr d)→∃v,(ts.map (·.1))[k]?=some v∧DA K F d v
  | [],_,k,_,_,h=>by simp [ri] at h
  | .inl c::r,_,k,j,⟨v,as,s,e,h1,h2⟩,h=>by
    subst e
    cases k with
    | zero=>simp [ri] at h
    | succ k=>simpa using vY.d (rs:=r) (k:=k) (j:=j+1) h2 (by simpa [ri] using h)
  | .inr d'::r,_,k,j,⟨v,s,e,h1,h2⟩,h=>by
    subst e
    cases k with
    | zero=>simp [ri] at h;subst h;exact⟨v,rfl,h1⟩
    | succ k=>simpa using vY.d (rs:=r) (k:=k) (j:=j+1) h2 (by simpa [ri] using h)
theorem vY.o{K:OU}{C:xM}{F H:Hp}{o:Ob}:∀{rs:List Gr} {ts:List Gv} {k:Nat},vY K C F H rs ts→rs[k]?=some (.inl o)→∃t,ts[k]?=some t∧iz K C F H o t.1 t.2
  | [],_,k,_,h=>by simp at h
  | .inl c::r,_,k,⟨v,as,s,e,h1,h2⟩,h=>by
    subst e
    cases k with
    | zero=>simp at h;subst h;exact⟨(v,as),rfl,h1⟩
    | succ k=>simpa using vY.o (rs:=r) (k:=k) h2 (by simpa using h)
  | .inr d'::r,_,k,⟨v,s,e,h1,h2⟩,h=>by
    subst e
    cases k with
    | zero=>simp at h
    | succ k=>simpa using vY.o (rs:=r) (k:=k) h2 (by simpa using h)
def kl(n:Nat)(m:MX)(fs:XG):XE:=fun x=>(fs x).bind fun p=>(m (ku (ri 0 p.1),oG 0 p.1)).bind fun z=>if p.1.length=n then some (z.1,p.2) else none
section
variable{X:Cx}{K:OU}{C:xM}{F H F1 H1 F2 H2:Hp}{σ:L2.St}{fa:XE}{fn:XN}{fs:XG}{a b:OV}{es:List OV}{pos apos p p2:Pos}{i:Nat}
theorem Ij{e e1 e2:En}{S S1 S2:xM→Prop}{o:Ob}{v:V}{ws:List xM}{rs:List Gr}{ts:List Gv}(X1:bw [] σ F H e S σ F1 H1 e1 fun a=>S1 a∨a∈ws)(A1:iz K C F1 H1 o v ws)(N1:∀a,a∈ws→¬S1 a∧¬bA σ e1 H1 a)
    (X2:bw [] σ F1 H1 e1 S1 σ F2 H2 e2 fun a=>S2 a∨xE ts a)(N2:Ka K C F2 H2 σ e2 S2 rs ts):bw [] σ F H e S σ F2 H2 e2 (fun a=>S2 a∨xE ((v,ws)::ts) a)∧Ka K C F2 H2 σ e2 S2 (.inl o::rs) ((v,ws)::ts):=by
  have X2':=X2.addS (T:=fun a=>a∈ws) fun a ha=>⟨(N1 a ha).2,(N1 a ha).1,fun z=>by
    obtain⟨_,u,g,_⟩:=A1.at a ha
    rw [g] at z;cases z⟩
  have A2:=A1.keep X2 fun a ha=>⟨(N1 a ha).2,(N1 a ha).1⟩
  have old:∀a,a∈ws→¬(bA σ e2 H2 a∨(S2 a∨xE ts a)):=fun a ha z=>by
    rcases X2.own a z with w | w
    · exact w.elim (N1 a ha).2 (N1 a ha).1
    · obtain⟨_,u,g,_⟩:=A1.at a ha
      rw [g] at w;cases w
  have cn:∀a,xE ((v,ws)::ts) a↔ a∈ws∨xE ts a:=fun a=>by
    unfold xE
    simp
  refine⟨?_,⟨v,ws,ts,rfl,A2,N2.at_⟩,fun a ha=>?_,?_⟩
  · have Y:=X1.trans X2'
    exact⟨Y.sf,Y.dom,Y.fr,Y.lst,Y.tmp,fun a z=>Y.own a (z.imp_right fun w=>by
      rcases w with w | w
      · exact .inl (.inl w)
      · exact((cn a).mp w).elim (fun w=>.inr w) fun w=>.inl (.inr w)),Y.wr,Y.fd⟩
  · rcases(cn a).mp ha with w | w
    · exact⟨fun z=>old a w (.inr (.inl z)),fun z=>old a w (.inl z)⟩
    · exact N2.no a w
  · exact SK.mpr ⟨fun t ht a ha hb=>old a ha (.inr (.inr ⟨t,ht,hb⟩)),N2.dis⟩
theorem CM:PA X [] (Fy K C Ie):=ig.mono fun σ H Q h=>by
  obtain⟨F,x,fp,os,x',R,hf,q⟩:=h
  cases hf
  exact q F H [] fp ⟨aq.refl _,fun _ h=>h,fun _ _ h _ _ _=>h,fun _ vs h=>⟨vs,h⟩,fun _ _ h _ _=>h,fun a z=>.inl (z.imp_right fun w=>w.elim id fun⟨_,h,_⟩=>by cases h),fun _ _=>rfl,fun _ _ h _ _ _=>h⟩ R ⟨rfl,fun a ⟨t,h,_⟩=>(by cases h),.nil⟩
theorem Ii(ha:PE X a (iB K C fa))(hr:PA X es (Fy K C fs))(h:Rl a=false):PA X (a::es) (Fy K C (yI fa fs)):=(vm ha hr h).mono fun σ H Q h=>by
  obtain⟨F,x,fp,os,x',R,hf,q⟩:=h
  unfold yI at hf
  obtain⟨⟨d,x1⟩,h1,hf⟩:=OK hf
  obtain⟨⟨os1,x2⟩,h2,hf⟩:=OL hf
  cases hf
  refine⟨F,x,fp,d,x1,R,h1,fun F1 H1 v fp1 X1 R1 A1=>⟨F1,x1,fp1,os1,x2,R1,h2,fun F2 H2 ts fp2 X2 R2 N2=>?_⟩⟩
  have cn:∀a,xE ((v,[])::ts) a↔ xE ts a:=fun a=>by
    unfold xE
    simp
  have Y:=X1.trans X2
  exact q F2 H2 ((v,[])::ts) fp2 ⟨Y.sf,Y.dom,Y.fr,Y.lst,Y.tmp,fun a z=>Y.own a (z.imp_right fun w=>w.imp_right (cn a).mp),Y.wr,Y.fd⟩ R2 ⟨⟨v,ts,rfl,A1.mono X2.sf,N2.at_⟩,fun a ha=>N2.no a ((cn a).mp ha),SK.mpr ⟨fun t ht a ha=>(by cases ha),N2.dis⟩⟩
theorem zu{n:Nat}{m:MX}{Q:VK}{E:XK}(h:iB K C (kl n m fs) σ H Q):qL (kR K C n m) [] E (Fy K C fs) σ H Q:=by
  obtain⟨F,x,fp,z,x',R,hf,q⟩:=h
  unfold kl at hf
  obtain⟨⟨rs,x1⟩,h1,hf⟩:=OK hf
  obtain⟨⟨r,oc⟩,h2,hf⟩:=OK hf
  dsimp only at hf h2
  split at hf
  case isFalse=>cases hf
  case isTrue hlen=>
  cases hf
  refine⟨F,x,fp,rs,_,R,h1,fun F1 H1 ts fp1 X1 R1 N1=>?_⟩
  show kR K C n m (ts.map (·.1)++[]) H1 Q E
  rw [Qo]
  have fk:∀k t,ts[k]?=some t→Ib ts (.s k)=t.2:=fun k t h=>by show((ts[k]?).map (·.2)).getD []=_;rw [h];rfl
  have sub:∀a,Fo (oG 0 rs) (Ib ts) a→xE ts a:=fun a ⟨p,hp,ha⟩=>by
    obtain⟨j,g1,g2⟩:=nA hp
    rw [QY] at g1
    obtain⟨t,g3,_⟩:=N1.at_.o g2
    rw [g1,fk j t g3] at ha
    exact⟨t,OQ g3,ha⟩
  have pw:=List.pairwise_iff_getElem.mp N1.dis
  have Rc:aU K C F1 H1 ((ts.map (·.1)).map some) (ku (ri 0 rs)) (oG 0 rs) (Ib ts):=by
    refine⟨t_ R1.rel.sm (by rw [sR,Px,N1.at_.len]) fun k d hk=>N1.at_.d hk,fun p hp=>?_,fun p hp p' hp' hne a ha hb=>?_,fun a _=>cP (cx _)⟩
    · obtain⟨j,g1,g2⟩:=nA hp
      rw [QY] at g1
      obtain⟨t,g3,g4⟩:=N1.at_.o g2
      rw [g1,fk j t g3]
      refine⟨?_,t.1,?_,g4⟩
      · show(ku (ri 0 rs))[j]?=_
        have:∀{rs:List Gr} {k j:Nat} {o:Ob},rs[j]?=some (.inl o)→(ri k rs)[j]?=some (.inl (.s (k+j))):=by
          intro rs
          induction rs with
          | nil=>intro k j o h;simp at h
          | cons c r ih=>
            intro k j o h
            cases j with
            | zero=>cases c<;>simp at h;simp [ri]
            | succ j=>
              have h3:=ih (k:=k+1) (j:=j) (o:=o) (by simpa using h)
              have e:k+1+j=k+(j+1):=by lia
              rw [e] at h3
              cases c<;>simpa [ri] using h3
        unfold ku;rw [PF,this g2];rfl
      · show((ts.map (·.1)).map some)[j]?=_
        rw [PF,PF,g3];rfl
    · obtain⟨j,g1,g2⟩:=nA hp
      obtain⟨j',g1',g2'⟩:=nA hp'
      rw [QY] at g1 g1'
      obtain⟨t,g3,_⟩:=N1.at_.o g2
      obtain⟨t',g3',_⟩:=N1.at_.o g2'
      rw [g1,fk j t g3] at ha
      rw [g1',fk j' t' g3'] at hb
      obtain⟨w1,w2⟩:=OM g3
      obtain⟨v1,v2⟩:=OM g3'
      rcases Nat.lt_trichotomy j j' with c | c | c
      · have:=pw j j' w1 v1 c;rw [w2,v2] at this;exact this a ha hb
      · exact hne (by rw [g1,g1',c])
      · have:=pw j' j v1 w1 c;rw [w2,v2] at this;exact this a hb ha
  refine⟨by rw [Px,←N1.at_.len];exact hlen,F1,(ku (ri 0 rs),oG 0 rs),Ib ts,_,oc,Rc,cx _,h2,fun F' H' v fq X3 R3 A3=>?_⟩
  have nO:∀a,¬bA ((ts.map (·.1)).map some) (ku (ri 0 rs)) H1 a:=fun a=>cP (cx _)
  have nS:∀a,¬xE ts a→¬Fo (oG 0 rs) (Ib ts) a:=fun a h z=>h (sub a z)
  obtain⟨Y,R4⟩:=R1.later2 (T:=xE ts) (F':=F') (H':=H') X3.sf R3.rel.sm X3.dom X3.lst (fun a u z n=>X3.tmp a u z (nO a) (nS a n))
    (fun a g1 ⟨u,g2,g3⟩ n=>by
      by_cases k:zz u=true
      · exact X3.fd a ⟨u,k⟩ g1 g2 (nO a) (nS a n)
      · rcases g3 with g3 | g3
        · cases u with
          | lst us=>exact X3.fr a us g1 g2 (nO a) (nS a n)
          | ins c d fs=>exact absurd rfl k
          | _=>cases g3
        · exact absurd g3 k) N1.no
  exact q F' H' v fp1 (X1.trans Y) R4 A3
theorem zv{n:Nat}{nm:Str}{m:MX}{Q:VK}{E:XK}(h:iB K C (kl n m (j4 nm fn fs)) σ H Q):yp C nm (kR K C n m) [] E (Kv K C fn) (Fy K C fs) σ H Q:=by
  obtain⟨F,x,fp,rs,x',R,hf,q⟩:=(zu (E:=E) h:Fy K C (j4 nm fn fs) σ H fun vs H1=>kR K C n m (vs++[]) H1 Q E)
  unfold j4 at hf
  obtain⟨⟨o,x1⟩,h1,hf⟩:=OK hf
  dsimp only at hf
  split at hf
  case h_2=>cases hf
  case h_1 gs=>
  split at hf
  case isFalse=>cases hf
  case isTrue hn=>
  obtain⟨⟨rs1,x2⟩,h2,hf⟩:=OL hf
  cases hf
  refine⟨F,x,fp,.dk gs,x1,R,h1,fun F1 H1 v ws fp1 X1 R1 A1 N1=>?_⟩
  obtain⟨ad,dx,hs,rfl,e1,c1,c2,c3⟩:=id A1
  refine⟨ad,dx,hs,rfl,c2,c3.none (Option.isNone_iff_eq_none.mp hn),F1,x1,fp1,rs1,_,R1,h2,fun F2 H2 ts fp2 X2 R2 N2=>?_⟩
  obtain⟨Y,N3⟩:=Ij X1 A1 N1 X2 N2
  exact q F2 H2 ((V.ref ad,ws)::ts) fp2 Y R2 N3
theorem Bg{k n:Nat}{nm:Str}{o:OV}{f:xM}{fd:Pj}{ps:List Str}{m:MX}{pl:Sem Bool}(hK:X.K=K)(ho:PE X o (Kv K C fn))(cl:oT K C)(hm:kU K C nm f)(G:aF X.prog X.w X.K X.mg X.base bS k f fd ps (kR K C n m))(hr:bG k X.A)(hb:cS X.K fd ps [])(ha:PA X (a::es) (Fy K C fs))
    (hst:Pd (a::es) X.env=(false,Pf a X.env)::Pd es X.env)(hpl:(Po pos (Pd es X.env)).any (·.1)=false)
    (ht:Pf (.Call (.Attribute o nm apos) (a::es) [] pos) X.env=(do
      let ov ←Pf o X.env
      standAt apos.atName
      let (f,first) ←holding [ov] (RB ov nm pl)
      callWith pos f first (Po pos (Pd (a::es) X.env)) (QL pos (QM [] X.env)))):
    PE X (.Call (.Attribute o nm apos) (a::es) [] pos) (iB K C (kl n m (j4 nm fn fs))):=by
  subst hK
  exact(xZ ho cl hm G hr hb .nil rX ha hst hpl ht).mono fun _ _ _ h=>zv h
end
end L2
namespace V88
open PySem PySem.Spec PyProof.Rows L2
variable{P:OZ}{w:OW}{K:OU}{mg:Str→Option OR}{base:OY}{f:xM}{fd:Pj}
local macro_rules|`(tactic|trivial)=>`(tactic|first|exact .inl rfl|exact .inr rfl|assumption)
local macro_rules|`(¬$n:num)=>`(@qw _ _ $n _ _ (by rfl) (by rfl) (by decide))
local macro_rules|`($a∘$b)=>`(@KM _ _ _ _ _ _ $a $b (by rfl))
theorem l8{α:Type u}{β:Type v}{f:α→β}:Ro f []=[]:=rfl
theorem l7{α:Type u}{β:Type v}{f:α→β}{a:α}{l:List α}:Ro f (a::l)=f a::Ro f l:=rfl
theorem lZ{α:Type u}{l:List α}:[]++l=l:=rfl
theorem lY{α:Type u}{a:α}{l m:List α}:(a::l)++m=a::(l++m):=rfl
theorem l5{α:Type u}{a:α}{l:List α}:(a::l)[0]?=some a:=rfl
theorem l6{α:Type u}{a:α}{l:List α}{i:Nat}:(a::l)[i+1]?=l[i]?:=rfl
theorem l4{α:Type u}{β:Type v}{a:α}{f:α→Option β}:Option.bind (some a) f=f a:=rfl
theorem l9{α:Type u}{β:Type v}{a:α}{f:α→β}:Option.map f (some a)=some (f a):=rfl
structure cw (mg:Str→Option OR):Prop where
  b_abs:mg "abs"=none
  b_len:mg "len"=none
  b_min:mg "min"=none
  b_max:mg "max"=none
  b_range:mg "range"=none
  b_tuple:mg "tuple"=none
  b_int:mg "int"=none
  b_sorted:mg "sorted"=none
  b_zip:mg "zip"=none
  b_enumerate:mg "enumerate"=none
  b_isinstance:mg "isinstance"=none
  b_set:mg "set"=none
  b_sum:mg "sum"=none
  b_all:mg "all"=none
  Fk:mg "list"=none
  b_reversed:mg "reversed"=none
  b_str:mg "str"=none
  b_ValueError:mg "ValueError"=none
abbrev Cl(P:OZ)(w:OW)(K:OU)(mg:Str→Option OR)(base:OY)(n:Str)(s:Pa)(ps:List Str)(lv k:Nat)(m:FM):Prop:=∃f fd,ee K mg n s f fd ps∧aF P w K mg base bS lv f fd ps (el K k m)
noncomputable def nU:FS:=(br (vV (ay dI (ay dI (ab 0) (vC (.int 1))) (ab 1)) gC (gb (vC (.int 2)))))
noncomputable def bV:FM:=iO 2 0 [] nU
theorem mU:aw ["web","tie"] ["web","tie"] (ag cY):=⟨rfl,rfl,rfl,by decide+kernel,rfl,by decide+kernel,by decide+kernel⟩
theorem tX(h:ee K mg "things_of" cY f fd ["web","tie"])(T:cw mg):aF P w K mg base bS 1 f fd ["web","tie"] (el K 2 bV):=by
  have nd:=mU.nd
  exact h.fn mU rfl rfl (fun cdv A outer s H E hr=>(@am _ _ _ _ _ (@aC _ _ _ _ _ (@o6 _ _ _ _ _ _ _ _ _ _ rfl (@b_ _ _ _ _ _ _ _ rfl (@b_ _ _ _ _ _ _ _ rfl (¬0) ae (fun _ _=>rfl)) (¬1) (fun _ _=>rfl)) (@jI _ _) (@jJ _ _ _ _ ae)))))
noncomputable def k7:FI:=(j7 (ab 1))
noncomputable def dF:FT:=(aA (ay (tF false) (ab 0) (dX 2 bV (aa (ab 1) (aa (ab 2) ah)))))
noncomputable def dG:FE:=(ab 2)
noncomputable def nQ:FS:=(br (az (g1 hX) (aa (cZ [(2,"thing"),(0,"web")] 1 k7 (aj 2) dF dG) ah)))
noncomputable def f9:FM:=iO 3 0 [] nQ
theorem mS:aw ["web","asked","thing"] ["web","asked","thing"] (ag gk):=⟨rfl,rfl,rfl,by decide+kernel,rfl,by decide+kernel,by decide+kernel⟩
theorem tV(h:ee K mg "many_asks" gk f fd ["web","asked","thing"])(T:cw mg)(z_things_of:Cl P w K mg base "things_of" cY ["web","tie"] 1 2 bV):aF P w K mg base bS 2 f fd ["web","asked","thing"] (el K 3 f9):=by
  obtain⟨M3,M4,Mh,Ms⟩:=z_things_of
  have nd:=mS.nd
  exact h.fn mS rfl rfl (fun cdv A outer s H E hr=>(@am _ _ _ _ _ (@aC _ _ _ _ _ (@aW _ _ _ _ _ _ _ _ _ (@b_len _ _ rfl) (by rfl) T.b_len ((@eM _ _ _ _ _ _ _ _ _ _ _ _ _ [(2,"thing"),(0,"web")] ["tie"] rfl rfl (@fj _ _ _ _ _ rfl (¬1))
        (fun C s0 H0 fp=>(@aI _ _ _ 2 _ (show QB (["thing","web","tie"]:List Str) by decide+kernel) rfl (Or.inl rfl) (by trivial))) (fun C s0 H0 fp=>(@jK _ _ _ _ (@aO _ _ _ _ _ _ _ _ _ (@wf _ _ _ rfl hr) (¬0) (@bI _ _ _ _ _ _ _ _ _ _ _ _ _ _ _ Mh Ms (hr.mono (by decide)) ((¬1)∘((¬2)∘ac)) (by rfl) (by decide) (by rfl) (by rfl)) (by with_unfolding_all rfl))))
        (fun C s0 H0 fp=>(¬2)) rfl (by rfl) (by intro _;rfl))∘ac) (by decide) (by decide) (by rfl) (by rfl)))))
noncomputable def eW:FS:=(aR (kY (ab 1) (cy (aL (aj 3) (aL (aj 4) bT))))
    (br (jf (ay (tF true) (ab 2) (ab 4)) (ay EA (dX 3 f9 (aa (ab 0) (aa (ab 3) (aa (ab 2) ah)))) (ay dI (ay dI (ab 0) (vC (.int 2))) (ab 2))))))
noncomputable def bK:FM:=iO 3 2 (([3]++([4]++[]))++[]) eW
theorem iG:aw ["web","stand","thing","asked","taken"] ["web","stand","thing"] (ag cB):=⟨rfl,rfl,rfl,by decide+kernel,rfl,by decide+kernel,by decide+kernel⟩
theorem mB(h:ee K mg "bears_one_more" cB f fd ["web","stand","thing"])(T:cw mg)(z_many_asks:Cl P w K mg base "many_asks" gk ["web","asked","thing"] 2 3 f9):aF P w K mg base bS 3 f fd ["web","stand","thing"] (el K 3 bK):=by
  obtain⟨N_,N',MD,Nr⟩:=z_many_asks
  have nd:=iG.nd
  exact h.fn iG rfl rfl (fun cdv A outer s H E hr=>(@af _ _ _ _ _ _ _ _ (@qm _ _ _ _ _ _ _ _ (¬1) (@ij _ _ _ _ _ _ _ _ rfl rfl (@bc _ _ _ _ _ _ _ _ (@aI _ _ _ 3 _ nd rfl (Or.inl rfl) (by trivial)) (@bc _ _ _ _ _ _ _ _ (@aI _ _ _ 4 _ nd rfl (Or.inl rfl) (by trivial)) (@eN _ _) (by rfl)) (by rfl)) (bz (bz hZ)) (by rfl) (by rfl)) (by rfl) (by rfl) (by rfl))
      (@am _ _ _ _ _ (@aC _ _ _ _ _ (@Bk _ _ _ _ _ _ _ _ (@ol _ _ _ _ _ _ _ _ _ (@Cz _ _ _ rfl hr) (¬2) (¬4) (by with_unfolding_all rfl)) (@Bn _ _ _ _ _ _ (@ol _ _ _ _ _ _ _ _ _ (@Cy _ _) (@bI _ _ _ _ _ _ _ _ _ _ _ _ _ _ _ MD Nr (hr.mono (by decide)) ((¬0)∘((¬3)∘((¬2)∘ac))) (by rfl) (by decide) (by rfl) (by rfl)) (@b_ _ _ _ _ _ _ _ rfl (@b_ _ _ _ _ _ _ _ rfl (¬0) ae (fun _ _=>rfl)) (¬2) (fun _ _=>rfl)) (aG _))))))))
noncomputable def n_:FI:=(j7 (dX 2 bV (aa (ab 0) (aa (ab 2) ah))))
noncomputable def j2:FE:=(dX 3 bK (aa (ab 0) (aa (ab 1) (aa (ab 2) ah))))
noncomputable def ko:FS:=(aR (bx 3 (ay dI (ab 1) (vC (.int 0))))
    (aR (i8 (ul (aA (ay (tF false) (ab 2) (ab 3))) (aA (ay Ex (az (g1 hX) (aa (ab 3) ah)) (ay dI (ab 0) (vC (.int 3))))))
    (br (vC (.bool false)))
    cQ)
    (br (az (g1 (j5 uL)) (aa (cZ [(0,"web"),(1,"stand")] 1 n_ (aj 2) kh j2) ah)))))
noncomputable def dm:FM:=iO 3 1 ([3]++(([]++[])++[])) ko
theorem qG:aw ["web","stand","tie","asked"] ["web","stand","tie"] (ag g_):=⟨rfl,rfl,rfl,by decide+kernel,rfl,by decide+kernel,by decide+kernel⟩
theorem wX(h:ee K mg "may_ask" g_ f fd ["web","stand","tie"])(T:cw mg)(z_bears_one_more:Cl P w K mg base "bears_one_more" cB ["web","stand","thing"] 3 3 bK)(z_things_of:Cl P w K mg base "things_of" cY ["web","tie"] 1 2 bV):aF P w K mg base bS 4 f fd ["web","stand","tie"] (el K 3 dm):=by
  obtain⟨NC,ND,Mi,MZ⟩:=z_bears_one_more
  obtain⟨M3,M4,Mh,Ms⟩:=z_things_of
  have nd:=qG.nd
  exact h.fn qG rfl rfl (fun cdv A outer s H E hr=>(@af _ _ _ _ _ _ _ _ (@aQ _ _ _ _ _ 3 _ _ nd rfl (Or.inl rfl) (@b_ _ _ _ _ _ _ _ rfl (¬1) ae (fun _ _=>rfl)) (by rfl) (by trivial))
      (@af _ _ _ _ _ _ _ _ (@cL _ _ _ _ _ _ _ _ _ _ _ (@rc _ _ _ _ (@qo _ _ _ _ _ _ _ _ (@aO _ _ _ _ _ _ _ _ _ (@wf _ _ _ rfl hr) (¬2) (¬3) (by with_unfolding_all rfl)) (@lD _ _ _ _ _ (@aO _ _ _ _ _ _ _ _ _ (@zJ _ _) (@aW _ _ _ _ _ _ _ _ _ (@b_len _ _ rfl) (by rfl) T.b_len ((¬3)∘ac) (by decide) (by decide) (by rfl) (by rfl)) (@b_ _ _ _ _ _ _ _ rfl (¬0) ae (fun _ _=>rfl)) (aG _)))))
      (@am _ _ _ _ _ (@aC _ _ _ _ _ (@om _ _ _ _ _)))
      (@bf _ _))
      (@am _ _ _ _ _ (@aC _ _ _ _ _ (@aW _ _ _ _ _ _ _ _ _ (@b_all _ _ _ rfl hr) (by rfl) T.b_all ((@eM _ _ _ _ _ _ _ _ _ _ _ _ _ [(0,"web"),(1,"stand")] ["thing"] rfl rfl (@fj _ _ _ _ _ rfl (@bI _ _ _ _ _ _ _ _ _ _ _ _ _ _ _ Mh Ms (hr.mono (by decide)) ((¬0)∘((¬2)∘ac)) (by rfl) (by decide) (by rfl) (by rfl)))
        (fun C s0 H0 fp=>(@aI _ _ _ 2 _ (show QB (["web","stand","thing"]:List Str) by decide+kernel) rfl (Or.inl rfl) (by trivial))) (fun C s0 H0 fp=>(@pe _ _))
        (fun C s0 H0 fp=>(@bI _ _ _ _ _ _ _ _ _ _ _ _ _ _ _ Mi MZ (hr.mono (by decide)) ((¬0)∘((¬1)∘((¬2)∘ac))) (by rfl) (by decide) (by rfl) (by rfl))) rfl (by rfl) (by intro _;rfl))∘ac) (by decide) (by decide) (by rfl) (by rfl)))))))
noncomputable def hJ:FS:=(aR (kY (ab 1) (cy (aL (aj 4) (aL (aj 5) bT))))
    (aR (i8 (aA (ab 3))
    (bx 5 (az (g1 eG) (aa (az (g1 eY) (aa (ay cV (ab 5) (dX 2 bV (aa (ab 0) (aa (ab 2) ah)))) ah)) ah)))
    cQ)
    (br (cM (aa (az (g1 eG) (aa (az (g1 eY) (aa (ay cV (ab 4) (cM (aa (ab 2) ah))) ah)) ah)) (aa (ab 5) ah))))))
noncomputable def bM:FM:=iO 4 2 (([4]++([5]++[]))++(([5]++[])++[])) hJ
theorem jS:aw ["web","stand","tie","truth","asked","taken"] ["web","stand","tie","truth"] (ag cX):=⟨rfl,rfl,rfl,by decide+kernel,rfl,by decide+kernel,by decide+kernel⟩
theorem oM(h:ee K mg "stand_behind" cX f fd ["web","stand","tie","truth"])(T:cw mg)(z_things_of:Cl P w K mg base "things_of" cY ["web","tie"] 1 2 bV):aF P w K mg base bS 2 f fd ["web","stand","tie","truth"] (el K 4 bM):=by
  obtain⟨M3,M4,Mh,Ms⟩:=z_things_of
  have nd:=jS.nd
  exact h.fn jS rfl rfl (fun cdv A outer s H E hr=>(@af _ _ _ _ _ _ _ _ (@qm _ _ _ _ _ _ _ _ (¬1) (@ij _ _ _ _ _ _ _ _ rfl rfl (@bc _ _ _ _ _ _ _ _ (@aI _ _ _ 4 _ nd rfl (Or.inl rfl) (by trivial)) (@bc _ _ _ _ _ _ _ _ (@aI _ _ _ 5 _ nd rfl (Or.inl rfl) (by trivial)) (@eN _ _) (by rfl)) (by rfl)) (bz (bz hZ)) (by rfl) (by rfl)) (by rfl) (by rfl) (by rfl))
      (@af _ _ _ _ _ _ _ _ (@cL _ _ _ _ _ _ _ _ _ _ _ (@ik _ _ _ _ (¬3) (by intro _;rfl))
      (@am _ _ _ _ _ (@aQ _ _ _ _ _ 5 _ _ nd rfl (Or.inl rfl) (@aW _ _ _ _ _ _ _ _ _ (@b_tuple _ _ rfl) (by rfl) T.b_tuple ((@aW _ _ _ _ _ _ _ _ _ (@b_sorted _ _ rfl) (by rfl) T.b_sorted ((@dA _ _ _ _ _ _ _ rfl (¬5) (@bI _ _ _ _ _ _ _ _ _ _ _ _ _ _ _ Mh Ms (hr.mono (by decide)) ((¬0)∘((¬2)∘ac)) (by rfl) (by decide) (by rfl) (by rfl)))∘ac) (by decide) (by decide) (by rfl) (by rfl))∘ac) (by decide) (by decide) (by rfl) (by rfl)) (by rfl) (by trivial)))
      (@bf _ _))
      (@am _ _ _ _ _ (@aC _ _ _ _ _ (@bC _ _ _ _ _ _ ((@aW _ _ _ _ _ _ _ _ _ (@b_tuple _ _ rfl) (by rfl) T.b_tuple ((@aW _ _ _ _ _ _ _ _ _ (@b_sorted _ _ rfl) (by rfl) T.b_sorted ((@dA _ _ _ _ _ _ _ rfl (¬4) (@bC _ _ _ _ _ _ ((¬2)∘ac)))∘ac) (by decide) (by decide) (by rfl) (by rfl))∘ac) (by decide) (by decide) (by rfl) (by rfl))∘((¬5)∘ac))))))))
noncomputable def nR:FS:=(aR (i8 (ul (lJ (aA (uo tS (ab 0)))) (aA (ay Ey (az (g1 m8) (aa (ab 0) ah)) (vC (.int (4))))))
    (br (vC .none))
    cQ)
    (aR (bx 1 (az (g1 jw) (aa (ab 0) ah)))
    (br (xB (aA (ay (bi false) (az (g1 eF) (aa (ab 1) ah)) (ab 0))) (ab 1) (vC .none)))))
noncomputable def f_:FM:=iO 1 1 (([]++[])++([1]++[])) nR
theorem mT:aw ["word","number"] ["word"] (ag gn):=⟨rfl,rfl,rfl,by decide+kernel,rfl,by decide+kernel,by decide+kernel⟩
theorem tW(h:ee K mg "number_of" gn f fd ["word"])(T:cw mg){t_MOST_FIGURES:Tok}(m_MOST_FIGURES:mg "MOST_FIGURES"=some (.int (4) t_MOST_FIGURES)):aF P w K mg base bS 1 f fd ["word"] (el K 1 f_):=by
  have nd:=mT.nd
  exact h.fn mT rfl rfl (fun cdv A outer s H E hr=>(@af _ _ _ _ _ _ _ _ (@cL _ _ _ _ _ _ _ _ _ _ _ (@rc _ _ _ _ (@qo _ _ _ _ _ _ _ _ (@xc _ _ _ _ _ (@ik _ _ _ _ (@Jc _ _ _ _ _ _ (¬0) (by rfl) (by rfl)) (by intro _;rfl))) (@lD _ _ _ _ _ (@aO _ _ _ _ _ _ _ _ _ (@zK _ _) (@aW _ _ _ _ _ _ _ _ _ (@Cv _ _) (by rfl) T.b_len ((¬0)∘ac) (by decide) (by decide) (by rfl) (by rfl)) (@ya _ _ _ (V.int (4)) _ _ (PyData.int (4)) rfl m_MOST_FIGURES ⟨_,rfl⟩ (fun _=>b6.mpr rfl) (by decide)) (aG _)))))
      (@am _ _ _ _ _ (@aC _ _ _ _ _ (@gu _ _ _ _)))
      (@bf _ _))
      (@af _ _ _ _ _ _ _ _ (@aQ _ _ _ _ _ 1 _ _ nd rfl (Or.inl rfl) (@aW _ _ _ _ _ _ _ _ _ (@xJ _ _) (by rfl) T.b_int ((¬0)∘ac) (by decide) (by decide) (by rfl) (by rfl)) (by rfl) (by trivial))
      (@am _ _ _ _ _ (@aC _ _ _ _ _ (@mL _ _ _ _ _ _ _ _ _ (@aO _ _ _ _ _ _ _ _ _ (@iA _ _ _ rfl hr) (@aW _ _ _ _ _ _ _ _ _ (@b_str _ _) (by rfl) T.b_str ((¬1)∘ac) (by decide) (by decide) (by rfl) (by rfl)) (¬0) (aG _)) (¬1) (@gu _ _ _ _)))))))
noncomputable def ml:FI:=(j7 (ab 0))
noncomputable def lW:FE:=(az (g1 eF) (aa (ab 0) ah))
noncomputable def pF:FS:=(br (ay nZ (vC (.str (" ":Str))) (cZ [] 1 ml (aj 0) kh lW)))
noncomputable def d_:FM:=iO 1 0 [] pF
theorem oy:aw ["row"] ["row"] (ag fw):=⟨rfl,rfl,rfl,by decide+kernel,rfl,by decide+kernel,by decide+kernel⟩
theorem vj(h:ee K mg "row_line" fw f fd ["row"])(T:cw mg):aF P w K mg base bS 1 f fd ["row"] (el K 1 d_):=by
  have nd:=oy.nd
  exact h.fn oy rfl rfl (fun cdv A outer s H E hr=>(@am _ _ _ _ _ (@aC _ _ _ _ _ (@Bi _ _ _ _ _ _ _ _ _ rfl (@eM _ _ _ _ _ _ _ _ _ _ _ _ _ [] ["part"] rfl rfl (@fj _ _ _ _ _ rfl (¬0))
        (fun C s0 H0 fp=>(@aI _ _ _ 0 _ (show QB (["part"]:List Str) by decide+kernel) rfl (Or.inl rfl) (by trivial))) (fun C s0 H0 fp=>(@pe _ _))
        (fun C s0 H0 fp=>(@aW _ _ _ _ _ _ _ _ _ (@b_str _ _) (by rfl) T.b_str ((¬0)∘ac) (by decide) (by decide) (by rfl) (by rfl))) rfl (by rfl) (by intro _;rfl)) (by rfl) (by rfl) (by rfl) (by rfl) (by rfl)))))
noncomputable def uP:FI:=(j7 (ab 0))
noncomputable def uC:FT:=(aA (ab 1))
noncomputable def uK:FE:=(ab 0)
noncomputable def yy:FS:=(br (az (g1 eG) (aa (cZ [] 2 uP (cy (aL (aj 0) (aL (aj 1) bT))) uC uK) ah)))
noncomputable def i0:FM:=iO 1 0 [] yy
theorem qF:aw ["run"] ["run"] (ag g9):=⟨rfl,rfl,rfl,by decide+kernel,rfl,by decide+kernel,by decide+kernel⟩
theorem wW(h:ee K mg "kept_of" g9 f fd ["run"])(T:cw mg):aF P w K mg base bS 1 f fd ["run"] (el K 1 i0):=by
  have nd:=qF.nd
  exact h.fn qF rfl rfl (fun cdv A outer s H E hr=>(@am _ _ _ _ _ (@aC _ _ _ _ _ (@aW _ _ _ _ _ _ _ _ _ (@b_tuple _ _ rfl) (by rfl) T.b_tuple ((@eM _ _ _ _ _ _ _ _ _ _ _ _ _ [] ["tie","truth"] rfl rfl (@fj _ _ _ _ _ rfl (¬0))
        (fun C s0 H0 fp=>(@ij _ _ _ _ _ _ _ _ rfl rfl (@bc _ _ _ _ _ _ _ _ (@aI _ _ _ 0 _ (show QB (["tie","truth"]:List Str) by decide+kernel) rfl (Or.inl rfl) (by trivial)) (@bc _ _ _ _ _ _ _ _ (@aI _ _ _ 1 _ (show QB (["tie","truth"]:List Str) by decide+kernel) rfl (Or.inl rfl) (by trivial)) (@eN _ _) (by rfl)) (by rfl)) (bz (bz hZ)) (by rfl) (by rfl))) (fun C s0 H0 fp=>(@jK _ _ _ _ (@ik _ _ _ _ (¬1) (by intro _;rfl))))
        (fun C s0 H0 fp=>(¬0)) rfl (by rfl) (by intro _;rfl))∘ac) (by decide) (by decide) (by rfl) (by rfl)))))
noncomputable def pV:FI:=(j7 (dX 1 i0 (aa (ab 1) ah)))
noncomputable def pL:FE:=(ay dI (ay dI (ay dI (ab 0) (vC (.int 1))) (ab 1)) (vC (.int 3)))
noncomputable def sT:FS:=(br (az (g1 (j5 xS)) (aa (cZ [(0,"web")] 1 pV (aj 1) kh pL) ah)))
noncomputable def jD:FM:=iO 2 0 [] sT
theorem lc:aw ["web","run"] ["web","run"] (ag eT):=⟨rfl,rfl,rfl,by decide+kernel,rfl,by decide+kernel,by decide+kernel⟩
theorem q5(h:ee K mg "worth_kept" eT f fd ["web","run"])(T:cw mg)(z_kept_of:Cl P w K mg base "kept_of" g9 ["run"] 1 1 i0):aF P w K mg base bS 2 f fd ["web","run"] (el K 2 jD):=by
  obtain⟨NE,NF,Mz,M5⟩:=z_kept_of
  have nd:=lc.nd
  exact h.fn lc rfl rfl (fun cdv A outer s H E hr=>(@am _ _ _ _ _ (@aC _ _ _ _ _ (@aW _ _ _ _ _ _ _ _ _ (@b_sum _ _ _ rfl hr) (by rfl) T.b_sum ((@eM _ _ _ _ _ _ _ _ _ _ _ _ _ [(0,"web")] ["tie"] rfl rfl (@fj _ _ _ _ _ rfl (@bI _ _ _ _ _ _ _ _ _ _ _ _ _ _ _ Mz M5 (hr.mono (by decide)) ((¬1)∘ac) (by rfl) (by decide) (by rfl) (by rfl)))
        (fun C s0 H0 fp=>(@aI _ _ _ 1 _ (show QB (["web","tie"]:List Str) by decide+kernel) rfl (Or.inl rfl) (by trivial))) (fun C s0 H0 fp=>(@pe _ _))
        (fun C s0 H0 fp=>(@b_ _ _ _ _ _ _ _ rfl (@b_ _ _ _ _ _ _ _ rfl (@b_ _ _ _ _ _ _ _ rfl (¬0) ae (fun _ _=>rfl)) (¬1) (fun _ _=>rfl)) ae (fun _ _=>rfl))) rfl (by rfl) (by intro _;rfl))∘ac) (by decide) (by decide) (by rfl) (by rfl)))))
noncomputable def j8:FI:=(di (aa (az (g1 hX) (aa (ay dI (ab 0) (vC (.int 1))) ah)) ah))
noncomputable def fN:FT:=(aA (dX 3 dm (aa (ab 0) (aa (ab 1) (aa (ab 2) ah)))))
noncomputable def fR:FE:=(ab 2)
noncomputable def rq:FS:=(br (cZ [(0,"web"),(1,"stand")] 1 j8 (aj 2) fN fR))
noncomputable def iZ:FM:=iO 2 0 [] rq
theorem qE:aw ["web","stand"] ["web","stand"] (ag ja):=⟨rfl,rfl,rfl,by decide+kernel,rfl,by decide+kernel,by decide+kernel⟩
theorem wV(h:ee K mg "asks_at" ja f fd ["web","stand"])(T:cw mg)(z_may_ask:Cl P w K mg base "may_ask" g_ ["web","stand","tie"] 4 3 dm):aF P w K mg base bS 5 f fd ["web","stand"] (el K 2 iZ):=by
  obtain⟨M6,M7,Mt,MA⟩:=z_may_ask
  have nd:=qE.nd
  exact h.fn qE rfl rfl (fun cdv A outer s H E hr=>(@am _ _ _ _ _ (@aC _ _ _ _ _ (@eM _ _ _ _ _ _ _ _ _ _ _ _ _ [(0,"web"),(1,"stand")] ["tie"] rfl rfl (@dr _ _ _ _ _ _ _ rfl T.b_range ((@aW _ _ _ _ _ _ _ _ _ (@b_len _ _ rfl) (by rfl) T.b_len ((@b_ _ _ _ _ _ _ _ rfl (¬0) ae (fun _ _=>rfl))∘ac) (by decide) (by decide) (by rfl) (by rfl))∘ac) (by rfl))
        (fun C s0 H0 fp=>(@aI _ _ _ 2 _ (show QB (["web","stand","tie"]:List Str) by decide+kernel) rfl (Or.inl rfl) (by trivial))) (fun C s0 H0 fp=>(@jK _ _ _ _ (@ik _ _ _ _ (@bI _ _ _ _ _ _ _ _ _ _ _ _ _ _ _ Mt MA (hr.mono (by decide)) ((¬0)∘((¬1)∘((¬2)∘ac))) (by rfl) (by decide) (by rfl) (by rfl)) (by intro _;rfl))))
        (fun C s0 H0 fp=>(¬2)) rfl (by rfl) (by intro _;rfl)))))
noncomputable def iX:FI:=(j7 (ab 1))
noncomputable def iT:FS:=(bx 2 (dX 4 bM (aa (ab 0) (aa (ab 2) (aa (ab 3) (aa (ab 4) ah))))))
noncomputable def jY:FS:=(aR (bx 2 (vC (.tuple [.tuple [],.tuple []])))
    (aR (iM (([3]++([4]++[]))++[2]) iX (cy (aL (aj 3) (aL (aj 4) bT))) iT)
    (br (ab 2))))
noncomputable def bN:FM:=iO 2 3 ([2]++((([3]++([4]++[]))++[2])++[])) jY
theorem jT:aw ["web","run","stand","tie","truth"] ["web","run"] (ag cC):=⟨rfl,rfl,rfl,by decide+kernel,rfl,by decide+kernel,by decide+kernel⟩
theorem oN(h:ee K mg "stand_of_run" cC f fd ["web","run"])(T:cw mg)(z_stand_behind:Cl P w K mg base "stand_behind" cX ["web","stand","tie","truth"] 2 4 bM){g_FIRST_STAND:xM}(m_FIRST_STAND:mg "FIRST_STAND"=some (.ref g_FIRST_STAND))(c_FIRST_STAND:∀F,DA K F (.tuple [.tuple [],.tuple []]) (.ref g_FIRST_STAND)):aF P w K mg base bS 3 f fd ["web","run"] (el K 2 bN):=by
  obtain⟨NO,NP,Mm,M'⟩:=z_stand_behind
  have nd:=jT.nd
  exact h.fn jT rfl rfl (fun cdv A outer s H E hr=>(@af _ _ _ _ _ _ _ _ (@aQ _ _ _ _ _ 2 _ _ nd rfl (Or.inl rfl) (@ya _ _ _ (V.ref g_FIRST_STAND) _ _ (PyData.tuple [.tuple [],.tuple []]) rfl m_FIRST_STAND rfl c_FIRST_STAND (by decide)) (by rfl) (by trivial))
      (@af _ _ _ _ _ _ _ _ (@lC _ _ _ _ _ _ _ _ _ _ _ QH rfl (@fj _ _ _ _ _ rfl (¬1)) (@ij _ _ _ _ _ _ _ _ rfl rfl (@bc _ _ _ _ _ _ _ _ (@aI _ _ _ 3 _ nd rfl (Or.inl rfl) (by trivial)) (@bc _ _ _ _ _ _ _ _ (@aI _ _ _ 4 _ nd rfl (Or.inl rfl) (by trivial)) (@eN _ _) (by rfl)) (by rfl)) (bz (bz hZ)) (by rfl) (by rfl))
      (@am _ _ _ _ _ (@aQ _ _ _ _ _ 2 _ _ nd rfl (Or.inl rfl) (@bI _ _ _ _ _ _ _ _ _ _ _ _ _ _ _ Mm M' (hr.mono (by decide)) ((¬0)∘((¬2)∘((¬3)∘((¬4)∘ac)))) (by rfl) (by decide) (by rfl) (by rfl)) (by rfl) (by trivial))) (by intro _;rfl))
      (@am _ _ _ _ _ (@aC _ _ _ _ _ (¬2))))))
noncomputable def lp:FS:=(aR (bx 2 (dX 2 iZ (aa (ab 0) (aa (dX 2 bN (aa (ab 0) (aa (ab 1) ah))) ah))))
    (br (xB (aA (ay Ey (az (g1 hX) (aa (ab 2) ah)) (vC (.int 0)))) (dX 1 d_ (aa (ab 2) ah)) (vC (.str ("none":Str))))))
noncomputable def d9:FM:=iO 2 1 ([2]++[]) lp
theorem ox:aw ["web","run","ties"] ["web","run"] (ag iu):=⟨rfl,rfl,rfl,by decide+kernel,rfl,by decide+kernel,by decide+kernel⟩
theorem vh(h:ee K mg "may_line" iu f fd ["web","run"])(T:cw mg)(z_asks_at:Cl P w K mg base "asks_at" ja ["web","stand"] 5 2 iZ)(z_stand_of_run:Cl P w K mg base "stand_of_run" cC ["web","run"] 3 2 bN)(z_row_line:Cl P w K mg base "row_line" fw ["row"] 1 1 d_):aF P w K mg base bS 6 f fd ["web","run"] (el K 2 d9):=by
  obtain⟨Og,Oh,MP,NG⟩:=z_asks_at
  obtain⟨Mx,My,Me,Mf⟩:=z_stand_of_run
  obtain⟨Nz,NA,Mp,MT⟩:=z_row_line
  have nd:=ox.nd
  exact h.fn ox rfl rfl (fun cdv A outer s H E hr=>(@af _ _ _ _ _ _ _ _ (@aQ _ _ _ _ _ 2 _ _ nd rfl (Or.inl rfl) (@bI _ _ _ _ _ _ _ _ _ _ _ _ _ _ _ MP NG (hr.mono (by decide)) ((¬0)∘((@bI _ _ _ _ _ _ _ _ _ _ _ _ _ _ _ Me Mf (hr.mono (by decide)) ((¬0)∘((¬1)∘ac)) (by rfl) (by decide) (by rfl) (by rfl))∘ac)) (by rfl) (by decide) (by rfl) (by rfl)) (by rfl) (by trivial))
      (@am _ _ _ _ _ (@aC _ _ _ _ _ (@mL _ _ _ _ _ _ _ _ _ (@aO _ _ _ _ _ _ _ _ _ (@zK _ _) (@aW _ _ _ _ _ _ _ _ _ (@b_len _ _ rfl) (by rfl) T.b_len ((¬2)∘ac) (by decide) (by decide) (by rfl) (by rfl)) ae (aG _)) (@bI _ _ _ _ _ _ _ _ _ _ _ _ _ _ _ Mp MT (hr.mono (by decide)) ((¬2)∘ac) (by rfl) (by decide) (by rfl) (by rfl)) (@aE _ _ _ _ _))))))
noncomputable def uA:FS:=(aR (bx 2 (dX 1 i0 (aa (ab 1) ah)))
    (br (dX 1 d_ (aa (ay cV (xB (aA (ay Ey (az (g1 hX) (aa (ab 2) ah)) (vC (.int 0)))) (ab 2) (cM (aa (vC (.str ("none":Str))) ah))) (cM (aa (dX 2 jD (aa (ab 0) (aa (ab 1) ah))) ah))) ah))))
noncomputable def j_:FM:=iO 2 1 ([2]++[]) uA
theorem mR:aw ["web","run","kept"] ["web","run"] (ag gh):=⟨rfl,rfl,rfl,by decide+kernel,rfl,by decide+kernel,by decide+kernel⟩
theorem tU(h:ee K mg "kept_line" gh f fd ["web","run"])(T:cw mg)(z_kept_of:Cl P w K mg base "kept_of" g9 ["run"] 1 1 i0)(z_row_line:Cl P w K mg base "row_line" fw ["row"] 1 1 d_)(z_worth_kept:Cl P w K mg base "worth_kept" eT ["web","run"] 2 2 jD):aF P w K mg base bS 3 f fd ["web","run"] (el K 2 j_):=by
  obtain⟨NE,NF,Mz,M5⟩:=z_kept_of
  obtain⟨Nz,NA,Mp,MT⟩:=z_row_line
  obtain⟨NV,NW,Mu,Nk⟩:=z_worth_kept
  have nd:=mR.nd
  exact h.fn mR rfl rfl (fun cdv A outer s H E hr=>(@af _ _ _ _ _ _ _ _ (@aQ _ _ _ _ _ 2 _ _ nd rfl (Or.inl rfl) (@bI _ _ _ _ _ _ _ _ _ _ _ _ _ _ _ Mz M5 (hr.mono (by decide)) ((¬1)∘ac) (by rfl) (by decide) (by rfl) (by rfl)) (by rfl) (by trivial))
      (@am _ _ _ _ _ (@aC _ _ _ _ _ (@bI _ _ _ _ _ _ _ _ _ _ _ _ _ _ _ Mp MT (hr.mono (by decide)) ((@dA _ _ _ _ _ _ _ rfl (@mL _ _ _ _ _ _ _ _ _ (@aO _ _ _ _ _ _ _ _ _ (@zK _ _) (@aW _ _ _ _ _ _ _ _ _ (@b_len _ _ rfl) (by rfl) T.b_len ((¬2)∘ac) (by decide) (by decide) (by rfl) (by rfl)) ae (aG _)) (¬2) (@bC _ _ _ _ _ _ ((@aE _ _ _ _ _)∘ac))) (@bC _ _ _ _ _ _ ((@bI _ _ _ _ _ _ _ _ _ _ _ _ _ _ _ Mu Nk (hr.mono (by decide)) ((¬0)∘((¬1)∘ac)) (by rfl) (by decide) (by rfl) (by rfl))∘ac)))∘ac) (by rfl) (by decide) (by rfl) (by rfl))))))
noncomputable def lN:FS:=(aR (bx 2 (ay fZ (ab 1) (vC (.str (" ":Str)))))
    (aR (i8 (ul (aA (ay (bi true) (az (g1 hX) (aa (ab 2) ah)) (vC (.int 2)))) (aA (ay (bi true) (ay dI (ab 2) (vC (.int 0))) (vC (.str ("ask":Str))))))
    (br (vC .none))
    cQ)
    (aR (bx 3 (dX 1 f_ (aa (ay dI (ab 2) (vC (.int 1))) ah)))
    (br (xB (lI (aA (ay lx (ab 3) (vC .none))) (aA (ay EA (ab 3) (az (g1 hX) (aa (ay dI (ab 0) (vC (.int 1))) ah))))) (ab 3) (vC .none))))))
noncomputable def eK:FM:=iO 2 2 ([2]++(([]++[])++([3]++[]))) lN
theorem k_:aw ["web","line","words","tie"] ["web","line"] (ag eS):=⟨rfl,rfl,rfl,by decide+kernel,rfl,by decide+kernel,by decide+kernel⟩
theorem qZ(h:ee K mg "tie_to_ask" eS f fd ["web","line"])(T:cw mg)(z_number_of:Cl P w K mg base "number_of" gn ["word"] 1 1 f_):aF P w K mg base bS 2 f fd ["web","line"] (el K 2 eK):=by
  obtain⟨Oa,Oc,ME,Nt⟩:=z_number_of
  have nd:=k_.nd
  exact h.fn k_ rfl rfl (fun cdv A outer s H E hr=>(@af _ _ _ _ _ _ _ _ (@aQ _ _ _ _ _ 2 _ _ nd rfl (Or.inl rfl) (@x_ _ _ _ _ _ _ _ _ (¬1) (@aE _ _ _ _ _) (by rfl) (by rfl) (by rfl) (by rfl) (by rfl)) (by rfl) (by trivial))
      (@af _ _ _ _ _ _ _ _ (@cL _ _ _ _ _ _ _ _ _ _ _ (@rc _ _ _ _ (@qo _ _ _ _ _ _ _ _ (@aO _ _ _ _ _ _ _ _ _ (@wk _ _ _ rfl hr) (@aW _ _ _ _ _ _ _ _ _ (@b_len _ _ rfl) (by rfl) T.b_len ((¬2)∘ac) (by decide) (by decide) (by rfl) (by rfl)) ae (aG _)) (@lD _ _ _ _ _ (@aO _ _ _ _ _ _ _ _ _ (@wk _ _ _ rfl hr) (@b_ _ _ _ _ _ _ _ rfl (¬2) ae (fun _ _=>rfl)) (@aE _ _ _ _ _) (aG _)))))
      (@am _ _ _ _ _ (@aC _ _ _ _ _ (@gu _ _ _ _)))
      (@bf _ _))
      (@af _ _ _ _ _ _ _ _ (@aQ _ _ _ _ _ 3 _ _ nd rfl (Or.inl rfl) (@bI _ _ _ _ _ _ _ _ _ _ _ _ _ _ _ ME Nt (hr.mono (by decide)) ((@b_ _ _ _ _ _ _ _ rfl (¬2) ae (fun _ _=>rfl))∘ac) (by rfl) (by decide) (by rfl) (by rfl)) (by rfl) (by trivial))
      (@am _ _ _ _ _ (@aC _ _ _ _ _ (@mL _ _ _ _ _ _ _ _ _ (@rc _ _ _ _ (@xf _ _ _ _ _ _ _ _ (@aO _ _ _ _ _ _ _ _ _ (@sW _ _) (¬3) (@gu _ _ _ _) (aG _)) (@t9 _ _ _ _ _ (@aO _ _ _ _ _ _ _ _ _ (@Cy _ _) (¬3) (@aW _ _ _ _ _ _ _ _ _ (@b_len _ _ rfl) (by rfl) T.b_len ((@b_ _ _ _ _ _ _ _ rfl (¬0) ae (fun _ _=>rfl))∘ac) (by decide) (by decide) (by rfl) (by rfl)) (aG _))))) (¬3) (@gu _ _ _ _))))))))
noncomputable def xH:FS:=(aR (bx 2 (ay bD (ay cV (ay cV (ay pQ (ay bD (ab 0) (vC (.int 2147483647))) (vC (.int 48271))) (ay pQ (ay pQ (vC (.int 7919)) (ab 1)) (ab 1))) (vC (.int 104729))) (vC (.int 2147483647))))
    (br (ay bD (ay pQ (ab 2) (ab 2)) (vC (.int 2147483629)))))
noncomputable def kO:FM:=iO 2 1 ([2]++[]) xH
theorem vI:aw ["_law_cell","_law_k","_law_number"] ["_law_cell","_law_k"] (ag mO):=⟨rfl,rfl,rfl,by decide+kernel,rfl,by decide+kernel,by decide+kernel⟩
theorem AN(h:ee K mg "_law_mixed" mO f fd ["_law_cell","_law_k"])(T:cw mg):aF P w K mg base bS 1 f fd ["_law_cell","_law_k"] (el K 2 kO):=by
  have nd:=vI.nd
  exact h.fn vI rfl rfl (fun cdv A outer s H E hr=>(@af _ _ _ _ _ _ _ _ (@aQ _ _ _ _ _ 2 _ _ nd rfl (Or.inl rfl) (@bB _ _ _ _ _ _ _ (@dA _ _ _ _ _ _ _ rfl (@dA _ _ _ _ _ _ _ rfl (@rZ _ _ _ _ _ _ _ rfl (@bB _ _ _ _ _ _ _ (¬0) ae) ae) (@rZ _ _ _ _ _ _ _ rfl (@rZ _ _ _ _ _ _ _ rfl ae (¬1)) (¬1))) ae) ae) (by rfl) (by trivial))
      (@am _ _ _ _ _ (@aC _ _ _ _ _ (@bB _ _ _ _ _ _ _ (@rZ _ _ _ _ _ _ _ rfl (¬2) (¬2)) ae)))))
noncomputable def gU:FT:=(lI (aA (ay Ex (ab 3) (ay wz (vC (.int 10)) (vC (.int 18))))) (aA (ay EA (az (g1 hX) (aa (ab 1) ah)) (vC (.int 900)))))
noncomputable def kn:FS:=(aR (eQ (ci bH (ab 1) (aa (ay bD (ab 3) (vC (.int 2147483629))) ah)))
    (bx 3 (ay hV (ab 3) (vC (.int 2147483629)))))
noncomputable def kz:FI:=(di (aa (vC (.int 12)) ah))
noncomputable def iR:FS:=(eQ (ci bH (ab 1) (aa (dX 2 kO (aa (dX 2 kO (aa (ab 3) (aa (ay cV (ay pQ (vC (.int 3)) (ab 4)) (vC (.int 1))) ah))) (aa (ay cV (ay cV (ab 4) (ab 2)) (vC (.int 2))) ah))) ah)))
noncomputable def m_:FI:=(di (aa (az (g2 z9) (aa (az (g1 hX) (aa (ab 0) ah)) (aa (vC (.int 63)) ah))) ah))
noncomputable def gS:FS:=(aR (bx 3 (az (g1 yH) (aa (ay dI (ab 0) (ab 2)) ah)))
    (aR (i8 (aA (ay EA (ab 3) (ay wz (vC (.int 10)) (vC (.int 18)))))
    (iM ([4]++[]) kz (aj 4) iR)
    cQ)
    (aR (qA (2 ^ 4200) gU kn)
    (i8 (aA (ay Ex (ab 3) (vC (.int 2147483629))))
    (eQ (ci bH (ab 1) (aa (ay bD (ab 3) (vC (.int 2147483629))) ah)))
    cQ))))
noncomputable def xG:FS:=(aR (bx 1 (ek ah))
    (aR (iM ([2]++([3]++((([4]++[])++[])++(([]++[3])++([]++[]))))) m_ (aj 2) gS)
    (br (ab 1))))
noncomputable def kN:FM:=iO 1 4 ([1]++(([2]++([3]++((([4]++[])++[])++(([]++[3])++([]++[])))))++[])) xG
theorem vH:aw ["_law_script","_law_drawn","_law_k","_law_cell","_law_j"] ["_law_script"] (ag mN):=⟨rfl,rfl,rfl,by decide+kernel,rfl,by decide+kernel,by decide+kernel⟩
theorem AM(h:ee K mg "_law_draws" mN f fd ["_law_script"])(T:cw mg)(zLmixed:Cl P w K mg base "_law_mixed" mO ["_law_cell","_law_k"] 1 2 kO):aF P w K mg base bS 2 f fd ["_law_script"] (el K 1 kN):=by
  obtain⟨Ox,Oy,M8,NH⟩:=zLmixed
  have nd:=vH.nd
  exact h.fn vH rfl rfl (fun cdv A outer s H E hr=>(@af _ _ _ _ _ _ _ _ (@aQ _ _ _ _ _ 1 _ _ nd rfl (Or.inl rfl) (@cG _ _ _ _ _ ac) (by rfl) (by trivial))
      (@af _ _ _ _ _ _ _ _ (@lC _ _ _ _ _ _ _ _ _ _ _ QH rfl (@dr _ _ _ _ _ _ _ rfl T.b_range ((@aW _ _ _ _ _ _ _ _ _ (@b_min _ _ rfl) (by rfl) T.b_min ((@aW _ _ _ _ _ _ _ _ _ (@b_len _ _ rfl) (by rfl) T.b_len ((¬0)∘ac) (by decide) (by decide) (by rfl) (by rfl))∘(ae∘ac)) (by decide) (by decide) (by rfl) (by rfl))∘ac) (by rfl)) (@aI _ _ _ 2 _ nd rfl (Or.inl rfl) (by trivial))
      (@af _ _ _ _ _ _ _ _ (@aQ _ _ _ _ _ 3 _ _ nd rfl (Or.inl rfl) (@aW _ _ _ _ _ _ _ _ _ (@b_abs _ _) (by rfl) T.b_abs ((@b_ _ _ _ _ _ _ _ rfl (¬0) (¬2) (fun _ _=>rfl))∘ac) (by decide) (by decide) (by rfl) (by rfl)) (by rfl) (by trivial))
      (@af _ _ _ _ _ _ _ _ (@cL _ _ _ _ _ _ _ _ _ _ _ (@aO _ _ _ _ _ _ _ _ _ (@Cy _ _) (¬3) (@EN _ _ _ _ _ _ _ ae ae) (aG _))
      (@am _ _ _ _ _ (@lC _ _ _ _ _ _ _ _ _ _ _ QH rfl (@dr _ _ _ _ _ _ _ rfl T.b_range (ae∘ac) (by rfl)) (@aI _ _ _ 4 _ nd rfl (Or.inl rfl) (by trivial))
      (@am _ _ _ _ _ (@gR _ _ _ _ _ (@ii _ _ _ _ _ _ _ _ _ rfl (¬1) ((@bI _ _ _ _ _ _ _ _ _ _ _ _ _ _ _ M8 NH (hr.mono (by decide)) ((@bI _ _ _ _ _ _ _ _ _ _ _ _ _ _ _ M8 NH (hr.mono (by decide)) ((¬3)∘((@dA _ _ _ _ _ _ _ rfl (@rZ _ _ _ _ _ _ _ rfl ae (¬4)) ae)∘ac)) (by rfl) (by decide) (by rfl) (by rfl))∘((@dA _ _ _ _ _ _ _ rfl (@dA _ _ _ _ _ _ _ rfl (¬4) (¬2)) ae)∘ac)) (by rfl) (by decide) (by rfl) (by rfl))∘ac) (by rfl) (by rfl) (by rfl) (by rfl) (by rfl)) (by rfl))) (by intro _;rfl)))
      (@bf _ _))
      (@af _ _ _ _ _ _ _ _ (@vy _ _ _ _ _ _ _ _ _ QH (@rc _ _ _ _ (@xf _ _ _ _ _ _ _ _ (@aO _ _ _ _ _ _ _ _ _ (@zJ _ _) (¬3) (@EN _ _ _ _ _ _ _ ae ae) (aG _)) (@t9 _ _ _ _ _ (@aO _ _ _ _ _ _ _ _ _ (@Cy _ _) (@aW _ _ _ _ _ _ _ _ _ (@b_len _ _ rfl) (by rfl) T.b_len ((¬1)∘ac) (by decide) (by decide) (by rfl) (by rfl)) ae (aG _)))))
      (@af _ _ _ _ _ _ _ _ (@gR _ _ _ _ _ (@ii _ _ _ _ _ _ _ _ _ rfl (¬1) ((@bB _ _ _ _ _ _ _ (¬3) ae)∘ac) (by rfl) (by rfl) (by rfl) (by rfl) (by rfl)) (by rfl))
      (@am _ _ _ _ _ (@aQ _ _ _ _ _ 3 _ _ nd rfl (Or.inl rfl) (@kd _ _ _ _ _ _ _ (¬3) ae) (by rfl) (by trivial)))))
      (@am _ _ _ _ _ (@cL _ _ _ _ _ _ _ _ _ _ _ (@aO _ _ _ _ _ _ _ _ _ (@zJ _ _) (¬3) ae (aG _))
      (@am _ _ _ _ _ (@gR _ _ _ _ _ (@ii _ _ _ _ _ _ _ _ _ rfl (¬1) ((@bB _ _ _ _ _ _ _ (¬3) ae)∘ac) (by rfl) (by rfl) (by rfl) (by rfl) (by rfl)) (by rfl)))
      (@bf _ _)))))) (by intro _;rfl))
      (@am _ _ _ _ _ (@aC _ _ _ _ _ (¬1))))))
noncomputable def we:FS:=(aR (i8 (aA (ay (bi false) (ab 0) (ek ah)))
    (br (vC (.int 0)))
    cQ)
    (br (ci e_ (ab 0) (aa (vC (.int 0)) ah))))
noncomputable def bQ:FM:=iO 1 0 (([]++[])++[]) we
theorem yj:aw ["_law_drawn"] ["_law_drawn"] (ag lE):=⟨rfl,rfl,rfl,by decide+kernel,rfl,by decide+kernel,by decide+kernel⟩
theorem Dg(h:ee K mg "_law_next" lE f fd ["_law_drawn"])(T:cw mg):aF P w K mg base bS 1 f fd ["_law_drawn"] (el K 1 bQ):=by
  have nd:=yj.nd
  exact h.fn yj rfl rfl (fun cdv A outer s H E hr=>(@af _ _ _ _ _ _ _ _ (@cL _ _ _ _ _ _ _ _ _ _ _ (@aO _ _ _ _ _ _ _ _ _ (@iA _ _ _ rfl hr) (¬0) (@cG _ _ _ _ _ ac) (aG _))
      (@am _ _ _ _ _ (@aC _ _ _ _ _ ae))
      (@bf _ _))
      (@am _ _ _ _ _ (@aC _ _ _ _ _ (@DN _ _ _ _ _ _ _ _ _ rfl (¬0) (ae∘ac) (by rfl) (by rfl) (by rfl) (by rfl) (by rfl))))))
noncomputable def lR:FT:=(aA (ay (bi true) (ab 1) (vC (.int 0))))
noncomputable def oW:FS:=(oP 0 1 (aa (ab 1) (aa (ay bD (ab 0) (ab 1)) ah)))
noncomputable def Eo:FS:=(aR (qA (2 ^ 4200) lR oW)
    (br (az (g1 yH) (aa (ab 0) ah))))
noncomputable def uZ:FM:=iO 2 0 ([0,1]++[]) Eo
theorem BM:aw ["_law_one","_law_other"] ["_law_one","_law_other"] (ag vD):=⟨rfl,rfl,rfl,by decide+kernel,rfl,by decide+kernel,by decide+kernel⟩
theorem GA(h:ee K mg "_law_gcd" vD f fd ["_law_one","_law_other"])(T:cw mg):aF P w K mg base bS 1 f fd ["_law_one","_law_other"] (el K 2 uZ):=by
  have nd:=BM.nd
  exact h.fn BM rfl rfl (fun cdv A outer s H E hr=>(@af _ _ _ _ _ _ _ _ (@vy _ _ _ _ _ _ _ _ _ QH (@aO _ _ _ _ _ _ _ _ _ (@wk _ _ _ rfl hr) (¬1) ae (aG _))
      (@am _ _ _ _ _ (@G8 _ _ _ _ _ 0 1 _ _ _ _ _ _ _ _ _ rfl nd rfl rfl (by decide) rfl rfl ((¬1)∘((@bB _ _ _ _ _ _ _ (¬0) (¬1))∘ac)) (by rfl) (by rfl))))
      (@am _ _ _ _ _ (@aC _ _ _ _ _ (@aW _ _ _ _ _ _ _ _ _ (@b_abs _ _) (by rfl) T.b_abs ((¬0)∘ac) (by decide) (by decide) (by rfl) (by rfl))))))
noncomputable def Ep:FS:=(aR (bx 2 (dX 2 uZ (aa (ab 0) (aa (ab 1) ah))))
    (br (cM (aa (ay hV (ab 0) (ab 2)) (aa (ay hV (ab 1) (ab 2)) ah)))))
noncomputable def rS:FM:=iO 2 1 ([2]++[]) Ep
theorem BN:aw ["_law_top","_law_bottom","_law_common"] ["_law_top","_law_bottom"] (ag vE):=⟨rfl,rfl,rfl,by decide+kernel,rfl,by decide+kernel,by decide+kernel⟩
theorem GB(h:ee K mg "_law_low" vE f fd ["_law_top","_law_bottom"])(T:cw mg)(zLgcd:Cl P w K mg base "_law_gcd" vD ["_law_one","_law_other"] 1 2 uZ):aF P w K mg base bS 2 f fd ["_law_top","_law_bottom"] (el K 2 rS):=by
  obtain⟨OG,OH,NQ,Oz⟩:=zLgcd
  have nd:=BN.nd
  exact h.fn BN rfl rfl (fun cdv A outer s H E hr=>(@af _ _ _ _ _ _ _ _ (@aQ _ _ _ _ _ 2 _ _ nd rfl (Or.inl rfl) (@bI _ _ _ _ _ _ _ _ _ _ _ _ _ _ _ NQ Oz (hr.mono (by decide)) ((¬0)∘((¬1)∘ac)) (by rfl) (by decide) (by rfl) (by rfl)) (by rfl) (by trivial))
      (@am _ _ _ _ _ (@aC _ _ _ _ _ (@bC _ _ _ _ _ _ ((@kd _ _ _ _ _ _ _ (¬0) (¬2))∘((@kd _ _ _ _ _ _ _ (¬1) (¬2))∘ac)))))))
noncomputable def jX:FS:=(aR (i8 (aA (ay (bi false) (ab 1) (vC (.int 0))))
    (br (ay dI (ek (aa (cM (aa (vC (.int 1)) (aa (vC (.int 2)) ah))) (aa (cM (aa (vC (.int 1)) (aa (vC (.int 3)) ah))) (aa (cM (aa (vC (.int 2)) (aa (vC (.int 3)) ah))) (aa (cM (aa (vC (.int 1)) (aa (vC (.int 1)) ah))) (aa (cM (aa (vC (.int 0)) (aa (vC (.int 1)) ah))) (aa (cM (aa (vC (.int 3)) (aa (vC (.int 4)) ah))) ah))))))) (ay bD (ab 0) (vC (.int 6)))))
    cQ)
    (aR (i8 (aA (ay (bi false) (ab 1) (vC (.int 1))))
    (aR (bx 2 (ay cV (vC (.int 2)) (ay bD (ab 0) (vC (.int 9)))))
    (br (dX 2 rS (aa (ay cV (vC (.int 1)) (ay bD (ay hV (ab 0) (vC (.int 9))) (ay m9 (ab 2) (vC (.int 1))))) (aa (ab 2) ah)))))
    cQ)
    (aR (i8 (aA (ay (bi false) (ab 1) (vC (.int 2))))
    (aR (bx 2 (ay cV (vC (.int 1)) (ay bD (ab 0) (vC (.int 100)))))
    (br (dX 2 rS (aa (ay bD (ay hV (ab 0) (vC (.int 100))) (ay cV (ab 2) (vC (.int 1)))) (aa (ab 2) ah)))))
    cQ)
    (br (cM (aa (vC (.int 1)) (aa (vC (.int 1)) ah)))))))
noncomputable def fY:FM:=iO 2 1 (([]++[])++((([2]++[])++[])++((([2]++[])++[])++[]))) jX
theorem se:aw ["_law_number","_law_kind","_law_bottom"] ["_law_number","_law_kind"] (ag kf):=⟨rfl,rfl,rfl,by decide+kernel,rfl,by decide+kernel,by decide+kernel⟩
theorem yX(h:ee K mg "_law_chance" kf f fd ["_law_number","_law_kind"])(T:cw mg)(zLlow:Cl P w K mg base "_law_low" vE ["_law_top","_law_bottom"] 2 2 rS):aF P w K mg base bS 3 f fd ["_law_number","_law_kind"] (el K 2 fY):=by
  obtain⟨OI,OJ,NI,Oi⟩:=zLlow
  have nd:=se.nd
  exact h.fn se rfl rfl (fun cdv A outer s H E hr=>(@af _ _ _ _ _ _ _ _ (@cL _ _ _ _ _ _ _ _ _ _ _ (@aO _ _ _ _ _ _ _ _ _ (@iA _ _ _ rfl hr) (¬1) ae (aG _))
      (@am _ _ _ _ _ (@aC _ _ _ _ _ (@b_ _ _ _ _ _ _ _ rfl (@cG _ _ _ _ _ ((@bC _ _ _ _ _ _ (ae∘(ae∘ac)))∘((@bC _ _ _ _ _ _ (ae∘(ae∘ac)))∘((@bC _ _ _ _ _ _ (ae∘(ae∘ac)))∘((@bC _ _ _ _ _ _ (ae∘(ae∘ac)))∘((@bC _ _ _ _ _ _ (ae∘(ae∘ac)))∘((@bC _ _ _ _ _ _ (ae∘(ae∘ac)))∘ac))))))) (@bB _ _ _ _ _ _ _ (¬0) ae) (fun _ _=>rfl))))
      (@bf _ _))
      (@af _ _ _ _ _ _ _ _ (@cL _ _ _ _ _ _ _ _ _ _ _ (@aO _ _ _ _ _ _ _ _ _ (@iA _ _ _ rfl hr) (¬1) ae (aG _))
      (@af _ _ _ _ _ _ _ _ (@aQ _ _ _ _ _ 2 _ _ nd rfl (Or.inl rfl) (@dA _ _ _ _ _ _ _ rfl ae (@bB _ _ _ _ _ _ _ (¬0) ae)) (by rfl) (by trivial))
      (@am _ _ _ _ _ (@aC _ _ _ _ _ (@bI _ _ _ _ _ _ _ _ _ _ _ _ _ _ _ NI Oi (hr.mono (by decide)) ((@dA _ _ _ _ _ _ _ rfl ae (@bB _ _ _ _ _ _ _ (@kd _ _ _ _ _ _ _ (¬0) ae) (@Bj _ _ _ _ _ _ _ (¬2) ae)))∘((¬2)∘ac)) (by rfl) (by decide) (by rfl) (by rfl)))))
      (@bf _ _))
      (@af _ _ _ _ _ _ _ _ (@cL _ _ _ _ _ _ _ _ _ _ _ (@aO _ _ _ _ _ _ _ _ _ (@iA _ _ _ rfl hr) (¬1) ae (aG _))
      (@af _ _ _ _ _ _ _ _ (@aQ _ _ _ _ _ 2 _ _ nd rfl (Or.inl rfl) (@dA _ _ _ _ _ _ _ rfl ae (@bB _ _ _ _ _ _ _ (¬0) ae)) (by rfl) (by trivial))
      (@am _ _ _ _ _ (@aC _ _ _ _ _ (@bI _ _ _ _ _ _ _ _ _ _ _ _ _ _ _ NI Oi (hr.mono (by decide)) ((@bB _ _ _ _ _ _ _ (@kd _ _ _ _ _ _ _ (¬0) ae) (@dA _ _ _ _ _ _ _ rfl (¬2) ae))∘((¬2)∘ac)) (by rfl) (by decide) (by rfl) (by rfl)))))
      (@bf _ _))
      (@am _ _ _ _ _ (@aC _ _ _ _ _ (@bC _ _ _ _ _ _ (ae∘(ae∘ac)))))))))
noncomputable def xI:FS:=(br (ay dI (ek (aa (ay bD (ab 0) (vC (.int 7))) (aa (ay cV (vC (.int 5)) (ay bD (ab 0) (vC (.int 2)))) (aa (ay bD (ab 0) (vC (.int 1001))) (aa (ay m9 (vC (.int 1000)) (ay bD (ab 0) (vC (.int 3)))) ah))))) (ay bD (ab 1) (vC (.int 4)))))
noncomputable def mw:FM:=iO 2 0 [] xI
theorem vJ:aw ["_law_number","_law_kind"] ["_law_number","_law_kind"] (ag mP):=⟨rfl,rfl,rfl,by decide+kernel,rfl,by decide+kernel,by decide+kernel⟩
theorem AO(h:ee K mg "_law_worth" mP f fd ["_law_number","_law_kind"])(T:cw mg):aF P w K mg base bS 1 f fd ["_law_number","_law_kind"] (el K 2 mw):=by
  have nd:=vJ.nd
  exact h.fn vJ rfl rfl (fun cdv A outer s H E hr=>(@am _ _ _ _ _ (@aC _ _ _ _ _ (@b_ _ _ _ _ _ _ _ rfl (@cG _ _ _ _ _ ((@bB _ _ _ _ _ _ _ (¬0) ae)∘((@dA _ _ _ _ _ _ _ rfl ae (@bB _ _ _ _ _ _ _ (¬0) ae))∘((@bB _ _ _ _ _ _ _ (¬0) ae)∘((@Bj _ _ _ _ _ _ _ ae (@bB _ _ _ _ _ _ _ (¬0) ae))∘ac))))) (@bB _ _ _ _ _ _ _ (¬1) ae) (fun _ _=>rfl)))))
noncomputable def pT:FI:=(di (aa (ab 2) ah))
noncomputable def iS:FS:=(aR (bx 8 (dX 1 bQ (aa (ab 0) ah)))
    (aR (bx 9 (ay dI (ek (aa (ay bD (ab 8) (ab 1)) (aa (vC (.int 0)) (aa (ay bD (ab 7) (ab 1)) (aa (ay bD (ab 8) (ab 1)) (aa (ay bD (ab 8) (vC (.int 2))) (aa (ay bD (ab 8) (ab 1)) ah))))))) (ab 3)))
    (aR (bx 10 (ay bD (ay cV (ay cV (ab 9) (vC (.int 1))) (ay bD (ay hV (ab 8) (vC (.int 12))) (ay m9 (ab 1) (vC (.int 1))))) (ab 1)))
    (aR (i8 (aA (ay (bi false) (ab 3) (vC (.int 4))))
    (kY (cM (aa (vC (.int 0)) (aa (vC (.int 1)) ah))) (cy (aL (aj 9) (aL (aj 10) bT))))
    cQ)
    (aR (bx 11 (dX 1 bQ (aa (ab 0) ah)))
    (aR (bx 12 (cM (aa (az (g2 z9) (aa (ab 9) (aa (ab 10) ah))) (aa (az (g2 yM) (aa (ab 9) (aa (ab 10) ah))) ah))))
    (eQ (ci bH (ab 6) (aa (ay cV (ab 12) (cM (aa (dX 2 fY (aa (ab 11) (aa (ab 4) ah))) (aa (dX 2 mw (aa (ay hV (ab 11) (vC (.int 10007))) (aa (ab 5) ah))) ah)))) ah)))))))))
noncomputable def zE:FS:=(aR (bx 3 (ay bD (dX 1 bQ (aa (ab 0) ah)) (vC (.int 6))))
    (aR (bx 4 (ay bD (dX 1 bQ (aa (ab 0) ah)) (vC (.int 4))))
    (aR (bx 5 (ay bD (dX 1 bQ (aa (ab 0) ah)) (vC (.int 4))))
    (aR (bx 6 (ek ah))
    (aR (iM ([7]++([8]++([9]++([10]++((([9]++([10]++[]))++[])++([11]++([12]++[]))))))) pT (aj 7) iS)
    (br (az (g1 eG) (aa (ab 6) ah))))))))
noncomputable def p4:FM:=iO 3 10 ([3]++([4]++([5]++([6]++(([7]++([8]++([9]++([10]++((([9]++([10]++[]))++[])++([11]++([12]++[])))))))++[]))))) zE
theorem yk:aw ["_law_drawn","_law_things","_law_many","_law_shape","_law_odds","_law_worths","_law_found","_law_k","_law_number","_law_one","_law_other","_law_cell","_law_ends"] ["_law_drawn","_law_things","_law_many"] (ag qx):=⟨rfl,rfl,rfl,by decide+kernel,rfl,by decide+kernel,by decide+kernel⟩
theorem Dh(h:ee K mg "_law_ties" qx f fd ["_law_drawn","_law_things","_law_many"])(T:cw mg)(zLnext:Cl P w K mg base "_law_next" lE ["_law_drawn"] 1 1 bQ)(zLchance:Cl P w K mg base "_law_chance" kf ["_law_number","_law_kind"] 3 2 fY)(zLworth:Cl P w K mg base "_law_worth" mP ["_law_number","_law_kind"] 1 2 mw):aF P w K mg base bS 4 f fd ["_law_drawn","_law_things","_law_many"] (el K 3 p4):=by
  obtain⟨NX,NY,Mj,Mo⟩:=zLnext
  obtain⟨Ot,Ou,M0,NR⟩:=zLchance
  obtain⟨OA,OB,Ni,Od⟩:=zLworth
  have nd:=yk.nd
  exact h.fn yk rfl rfl (fun cdv A outer s H E hr=>(@af _ _ _ _ _ _ _ _ (@aQ _ _ _ _ _ 3 _ _ nd rfl (Or.inl rfl) (@bB _ _ _ _ _ _ _ (@bI _ _ _ _ _ _ _ _ _ _ _ _ _ _ _ Mj Mo (hr.mono (by decide)) ((¬0)∘ac) (by rfl) (by decide) (by rfl) (by rfl)) ae) (by rfl) (by trivial))
      (@af _ _ _ _ _ _ _ _ (@aQ _ _ _ _ _ 4 _ _ nd rfl (Or.inl rfl) (@bB _ _ _ _ _ _ _ (@bI _ _ _ _ _ _ _ _ _ _ _ _ _ _ _ Mj Mo (hr.mono (by decide)) ((¬0)∘ac) (by rfl) (by decide) (by rfl) (by rfl)) ae) (by rfl) (by trivial))
      (@af _ _ _ _ _ _ _ _ (@aQ _ _ _ _ _ 5 _ _ nd rfl (Or.inl rfl) (@bB _ _ _ _ _ _ _ (@bI _ _ _ _ _ _ _ _ _ _ _ _ _ _ _ Mj Mo (hr.mono (by decide)) ((¬0)∘ac) (by rfl) (by decide) (by rfl) (by rfl)) ae) (by rfl) (by trivial))
      (@af _ _ _ _ _ _ _ _ (@aQ _ _ _ _ _ 6 _ _ nd rfl (Or.inl rfl) (@cG _ _ _ _ _ ac) (by rfl) (by trivial))
      (@af _ _ _ _ _ _ _ _ (@lC _ _ _ _ _ _ _ _ _ _ _ QH rfl (@dr _ _ _ _ _ _ _ rfl T.b_range ((¬2)∘ac) (by rfl)) (@aI _ _ _ 7 _ nd rfl (Or.inl rfl) (by trivial))
      (@af _ _ _ _ _ _ _ _ (@aQ _ _ _ _ _ 8 _ _ nd rfl (Or.inl rfl) (@bI _ _ _ _ _ _ _ _ _ _ _ _ _ _ _ Mj Mo (hr.mono (by decide)) ((¬0)∘ac) (by rfl) (by decide) (by rfl) (by rfl)) (by rfl) (by trivial))
      (@af _ _ _ _ _ _ _ _ (@aQ _ _ _ _ _ 9 _ _ nd rfl (Or.inl rfl) (@b_ _ _ _ _ _ _ _ rfl (@cG _ _ _ _ _ ((@bB _ _ _ _ _ _ _ (¬8) (¬1))∘(ae∘((@bB _ _ _ _ _ _ _ (¬7) (¬1))∘((@bB _ _ _ _ _ _ _ (¬8) (¬1))∘((@bB _ _ _ _ _ _ _ (¬8) ae)∘((@bB _ _ _ _ _ _ _ (¬8) (¬1))∘ac))))))) (¬3) (fun _ _=>rfl)) (by rfl) (by trivial))
      (@af _ _ _ _ _ _ _ _ (@aQ _ _ _ _ _ 10 _ _ nd rfl (Or.inl rfl) (@bB _ _ _ _ _ _ _ (@dA _ _ _ _ _ _ _ rfl (@dA _ _ _ _ _ _ _ rfl (¬9) ae) (@bB _ _ _ _ _ _ _ (@kd _ _ _ _ _ _ _ (¬8) ae) (@Bj _ _ _ _ _ _ _ (¬1) ae))) (¬1)) (by rfl) (by trivial))
      (@af _ _ _ _ _ _ _ _ (@cL _ _ _ _ _ _ _ _ _ _ _ (@aO _ _ _ _ _ _ _ _ _ (@iA _ _ _ rfl hr) (¬3) ae (aG _))
      (@am _ _ _ _ _ (@qm _ _ _ _ _ _ _ _ (@bC _ _ _ _ _ _ (ae∘(ae∘ac))) (@ij _ _ _ _ _ _ _ _ rfl rfl (@bc _ _ _ _ _ _ _ _ (@aI _ _ _ 9 _ nd rfl (Or.inl rfl) (by trivial)) (@bc _ _ _ _ _ _ _ _ (@aI _ _ _ 10 _ nd rfl (Or.inl rfl) (by trivial)) (@eN _ _) (by rfl)) (by rfl)) (bz (bz hZ)) (by rfl) (by rfl)) (by rfl) (by rfl) (by rfl)))
      (@bf _ _))
      (@af _ _ _ _ _ _ _ _ (@aQ _ _ _ _ _ 11 _ _ nd rfl (Or.inl rfl) (@bI _ _ _ _ _ _ _ _ _ _ _ _ _ _ _ Mj Mo (hr.mono (by decide)) ((¬0)∘ac) (by rfl) (by decide) (by rfl) (by rfl)) (by rfl) (by trivial))
      (@af _ _ _ _ _ _ _ _ (@aQ _ _ _ _ _ 12 _ _ nd rfl (Or.inl rfl) (@bC _ _ _ _ _ _ ((@aW _ _ _ _ _ _ _ _ _ (@b_min _ _ rfl) (by rfl) T.b_min ((¬9)∘((¬10)∘ac)) (by decide) (by decide) (by rfl) (by rfl))∘((@aW _ _ _ _ _ _ _ _ _ (@b_max _ _ rfl) (by rfl) T.b_max ((¬9)∘((¬10)∘ac)) (by decide) (by decide) (by rfl) (by rfl))∘ac))) (by rfl) (by trivial))
      (@am _ _ _ _ _ (@gR _ _ _ _ _ (@ii _ _ _ _ _ _ _ _ _ rfl (¬6) ((@dA _ _ _ _ _ _ _ rfl (¬12) (@bC _ _ _ _ _ _ ((@bI _ _ _ _ _ _ _ _ _ _ _ _ _ _ _ M0 NR (hr.mono (by decide)) ((¬11)∘((¬4)∘ac)) (by rfl) (by decide) (by rfl) (by rfl))∘((@bI _ _ _ _ _ _ _ _ _ _ _ _ _ _ _ Ni Od (hr.mono (by decide)) ((@kd _ _ _ _ _ _ _ (¬11) ae)∘((¬5)∘ac)) (by rfl) (by decide) (by rfl) (by rfl))∘ac))))∘ac) (by rfl) (by rfl) (by rfl) (by rfl) (by rfl)) (by rfl))))))))) (by intro _;rfl))
      (@am _ _ _ _ _ (@aC _ _ _ _ _ (@aW _ _ _ _ _ _ _ _ _ (@b_tuple _ _ rfl) (by rfl) T.b_tuple ((¬6)∘ac) (by decide) (by decide) (by rfl) (by rfl))))))))))
noncomputable def tI:FI:=(di (aa (ab 3) ah))
noncomputable def oX:FS:=(eQ (ci bH (ab 7) (aa (ay dI (ek (aa (vC (.int 20)) (aa (ay cV (vC (.int 1)) (ay bD (dX 1 bQ (aa (ab 0) ah)) (vC (.int 3)))) (aa (ay bD (dX 1 bQ (aa (ab 0) ah)) (vC (.int 21))) ah)))) (ab 6)) ah)))
noncomputable def Er:FS:=(aR (bx 3 (ay bD (dX 1 bQ (aa (ab 0) ah)) (ay cV (ab 1) (vC (.int 1)))))
    (aR (bx 4 (ay pQ (ay bD (dX 1 bQ (aa (ab 0) ah)) (ay cV (ab 2) (vC (.int 1)))) (az (g1 pP) (aa (ay Ey (ab 3) (vC (.int 1))) ah))))
    (aR (bx 5 (dX 3 p4 (aa (ab 0) (aa (az (g2 yM) (aa (vC (.int 2)) (aa (ab 3) ah))) (aa (ab 4) ah)))))
    (aR (bx 6 (ay bD (dX 1 bQ (aa (ab 0) ah)) (vC (.int 3))))
    (aR (bx 7 (ek ah))
    (aR (iM ([8]++[]) tI (aj 8) oX)
    (aR (bx 9 (ay dI (ek (aa (vC (.int 40)) (aa (ay cV (vC (.int 1)) (ay bD (dX 1 bQ (aa (ab 0) ah)) (az (g2 yM) (aa (vC (.int 1)) (aa (ab 4) ah))))) (aa (ay bD (dX 1 bQ (aa (ab 0) ah)) (vC (.int 41))) ah)))) (ay bD (dX 1 bQ (aa (ab 0) ah)) (vC (.int 3)))))
    (br (cM (aa (ab 3) (aa (ab 5) (aa (az (g1 eG) (aa (ab 7) ah)) (aa (ab 9) ah)))))))))))))
noncomputable def rT:FM:=iO 3 7 ([3]++([4]++([5]++([6]++([7]++(([8]++[])++([9]++[]))))))) Er
theorem BP:aw ["_law_drawn","_law_most","_law_ties_here","_law_things","_law_many","_law_rows","_law_way","_law_patience","_law_k","_law_asks"] ["_law_drawn","_law_most","_law_ties_here"] (ag vF):=⟨rfl,rfl,rfl,by decide+kernel,rfl,by decide+kernel,by decide+kernel⟩
theorem GD(h:ee K mg "_law_web" vF f fd ["_law_drawn","_law_most","_law_ties_here"])(T:cw mg)(zLties:Cl P w K mg base "_law_ties" qx ["_law_drawn","_law_things","_law_many"] 4 3 p4)(zLnext:Cl P w K mg base "_law_next" lE ["_law_drawn"] 1 1 bQ):aF P w K mg base bS 5 f fd ["_law_drawn","_law_most","_law_ties_here"] (el K 3 rT):=by
  obtain⟨OE,OF,Nv,Oj⟩:=zLties
  obtain⟨NX,NY,Mj,Mo⟩:=zLnext
  have nd:=BP.nd
  exact h.fn BP rfl rfl (fun cdv A outer s H E hr=>(@af _ _ _ _ _ _ _ _ (@aQ _ _ _ _ _ 3 _ _ nd rfl (Or.inl rfl) (@bB _ _ _ _ _ _ _ (@bI _ _ _ _ _ _ _ _ _ _ _ _ _ _ _ Mj Mo (hr.mono (by decide)) ((¬0)∘ac) (by rfl) (by decide) (by rfl) (by rfl)) (@dA _ _ _ _ _ _ _ rfl (¬1) ae)) (by rfl) (by trivial))
      (@af _ _ _ _ _ _ _ _ (@aQ _ _ _ _ _ 4 _ _ nd rfl (Or.inl rfl) (@rZ _ _ _ _ _ _ _ rfl (@bB _ _ _ _ _ _ _ (@bI _ _ _ _ _ _ _ _ _ _ _ _ _ _ _ Mj Mo (hr.mono (by decide)) ((¬0)∘ac) (by rfl) (by decide) (by rfl) (by rfl)) (@dA _ _ _ _ _ _ _ rfl (¬2) ae)) (@aW _ _ _ _ _ _ _ _ _ (@b_int _ _) (by rfl) T.b_int ((@ol _ _ _ _ _ _ _ _ _ (@zK _ _) (¬3) ae (aG _))∘ac) (by decide) (by decide) (by rfl) (by rfl))) (by rfl) (by trivial))
      (@af _ _ _ _ _ _ _ _ (@aQ _ _ _ _ _ 5 _ _ nd rfl (Or.inl rfl) (@bI _ _ _ _ _ _ _ _ _ _ _ _ _ _ _ Nv Oj (hr.mono (by decide)) ((¬0)∘((@aW _ _ _ _ _ _ _ _ _ (@b_max _ _ rfl) (by rfl) T.b_max (ae∘((¬3)∘ac)) (by decide) (by decide) (by rfl) (by rfl))∘((¬4)∘ac))) (by rfl) (by decide) (by rfl) (by rfl)) (by rfl) (by trivial))
      (@af _ _ _ _ _ _ _ _ (@aQ _ _ _ _ _ 6 _ _ nd rfl (Or.inl rfl) (@bB _ _ _ _ _ _ _ (@bI _ _ _ _ _ _ _ _ _ _ _ _ _ _ _ Mj Mo (hr.mono (by decide)) ((¬0)∘ac) (by rfl) (by decide) (by rfl) (by rfl)) ae) (by rfl) (by trivial))
      (@af _ _ _ _ _ _ _ _ (@aQ _ _ _ _ _ 7 _ _ nd rfl (Or.inl rfl) (@cG _ _ _ _ _ ac) (by rfl) (by trivial))
      (@af _ _ _ _ _ _ _ _ (@lC _ _ _ _ _ _ _ _ _ _ _ QH rfl (@dr _ _ _ _ _ _ _ rfl T.b_range ((¬3)∘ac) (by rfl)) (@aI _ _ _ 8 _ nd rfl (Or.inl rfl) (by trivial))
      (@am _ _ _ _ _ (@gR _ _ _ _ _ (@ii _ _ _ _ _ _ _ _ _ rfl (¬7) ((@b_ _ _ _ _ _ _ _ rfl (@cG _ _ _ _ _ (ae∘((@dA _ _ _ _ _ _ _ rfl ae (@bB _ _ _ _ _ _ _ (@bI _ _ _ _ _ _ _ _ _ _ _ _ _ _ _ Mj Mo (hr.mono (by decide)) ((¬0)∘ac) (by rfl) (by decide) (by rfl) (by rfl)) ae))∘((@bB _ _ _ _ _ _ _ (@bI _ _ _ _ _ _ _ _ _ _ _ _ _ _ _ Mj Mo (hr.mono (by decide)) ((¬0)∘ac) (by rfl) (by decide) (by rfl) (by rfl)) ae)∘ac)))) (¬6) (fun _ _=>rfl))∘ac) (by rfl) (by rfl) (by rfl) (by rfl) (by rfl)) (by rfl))) (by intro _;rfl))
      (@af _ _ _ _ _ _ _ _ (@aQ _ _ _ _ _ 9 _ _ nd rfl (Or.inl rfl) (@b_ _ _ _ _ _ _ _ rfl (@cG _ _ _ _ _ (ae∘((@dA _ _ _ _ _ _ _ rfl ae (@bB _ _ _ _ _ _ _ (@bI _ _ _ _ _ _ _ _ _ _ _ _ _ _ _ Mj Mo (hr.mono (by decide)) ((¬0)∘ac) (by rfl) (by decide) (by rfl) (by rfl)) (@aW _ _ _ _ _ _ _ _ _ (@b_max _ _ rfl) (by rfl) T.b_max (ae∘((¬4)∘ac)) (by decide) (by decide) (by rfl) (by rfl))))∘((@bB _ _ _ _ _ _ _ (@bI _ _ _ _ _ _ _ _ _ _ _ _ _ _ _ Mj Mo (hr.mono (by decide)) ((¬0)∘ac) (by rfl) (by decide) (by rfl) (by rfl)) ae)∘ac)))) (@bB _ _ _ _ _ _ _ (@bI _ _ _ _ _ _ _ _ _ _ _ _ _ _ _ Mj Mo (hr.mono (by decide)) ((¬0)∘ac) (by rfl) (by decide) (by rfl) (by rfl)) ae) (fun _ _=>rfl)) (by rfl) (by trivial))
      (@am _ _ _ _ _ (@aC _ _ _ _ _ (@bC _ _ _ _ _ _ ((¬3)∘((¬5)∘((@aW _ _ _ _ _ _ _ _ _ (@b_tuple _ _ rfl) (by rfl) T.b_tuple ((¬7)∘ac) (by decide) (by decide) (by rfl) (by rfl))∘((¬9)∘ac)))))))))))))))
noncomputable def n9:FI:=(j7 (ab 1))
noncomputable def fM:FT:=(aA (ay (tF false) (ab 0) (vV (ay dI (ay dI (ab 1) (vC (.int 1))) (ab 2)) gC (gb (vC (.int 2))))))
noncomputable def fQ:FE:=(ab 2)
noncomputable def rk:FS:=(br (az (g1 hX) (aa (cZ [(2,"_law_thing"),(0,"_law_web_here")] 1 n9 (aj 2) fM fQ) ah)))
noncomputable def gX:FM:=iO 3 0 [] rk
theorem qD:aw ["_law_web_here","_law_asked","_law_thing"] ["_law_web_here","_law_asked","_law_thing"] (ag i_):=⟨rfl,rfl,rfl,by decide+kernel,rfl,by decide+kernel,by decide+kernel⟩
theorem wU(h:ee K mg "_law_asks_of" i_ f fd ["_law_web_here","_law_asked","_law_thing"])(T:cw mg):aF P w K mg base bS 1 f fd ["_law_web_here","_law_asked","_law_thing"] (el K 3 gX):=by
  have nd:=qD.nd
  exact h.fn qD rfl rfl (fun cdv A outer s H E hr=>(@am _ _ _ _ _ (@aC _ _ _ _ _ (@aW _ _ _ _ _ _ _ _ _ (@b_len _ _ rfl) (by rfl) T.b_len ((@eM _ _ _ _ _ _ _ _ _ _ _ _ _ [(2,"_law_thing"),(0,"_law_web_here")] ["_law_tie"] rfl rfl (@fj _ _ _ _ _ rfl (¬1))
        (fun C s0 H0 fp=>(@aI _ _ _ 2 _ (show QB (["_law_thing","_law_web_here","_law_tie"]:List Str) by decide+kernel) rfl (Or.inl rfl) (by trivial))) (fun C s0 H0 fp=>(@jK _ _ _ _ (@aO _ _ _ _ _ _ _ _ _ (@wf _ _ _ rfl hr) (¬0) (@o6 _ _ _ _ _ _ _ _ _ _ rfl (@b_ _ _ _ _ _ _ _ rfl (@b_ _ _ _ _ _ _ _ rfl (¬1) ae (fun _ _=>rfl)) (¬2) (fun _ _=>rfl)) (@jI _ _) (@jJ _ _ _ _ ae)) (by with_unfolding_all rfl))))
        (fun C s0 H0 fp=>(¬2)) rfl (by rfl) (by intro _;rfl))∘ac) (by decide) (by decide) (by rfl) (by rfl)))))
noncomputable def xU:FI:=(j7 (vV (ay dI (ay dI (ab 0) (vC (.int 1))) (ab 2)) gC (gb (vC (.int 2)))))
noncomputable def jo:FS:=(i8 (ul (aA (ay (tF false) (ab 5) (ab 4))) (aA (ay Ex (dX 3 gX (aa (ab 0) (aa (ab 3) (aa (ab 5) ah)))) (ay dI (ay dI (ab 0) (vC (.int 2))) (ab 5)))))
    (br (vC (.bool false)))
    cQ)
noncomputable def rm:FS:=(aR (kY (ab 1) (cy (aL (aj 3) (aL (aj 4) bT))))
    (aR (i8 (ul (aA (ay (tF false) (ab 2) (ab 3))) (aA (ay Ex (az (g1 hX) (aa (ab 3) ah)) (ay dI (ab 0) (vC (.int 3))))))
    (br (vC (.bool false)))
    cQ)
    (aR (iM ([5]++([]++[])) xU (aj 5) jo)
    (br (vC (.bool true))))))
noncomputable def j9:FM:=iO 3 3 (([3]++([4]++[]))++(([]++[])++(([5]++([]++[]))++[]))) rm
theorem BO:aw ["_law_web_here","_law_stand","_law_tie","_law_asked","_law_taken","_law_thing"] ["_law_web_here","_law_stand","_law_tie"] (ag r9):=⟨rfl,rfl,rfl,by decide+kernel,rfl,by decide+kernel,by decide+kernel⟩
theorem GC(h:ee K mg "_law_may" r9 f fd ["_law_web_here","_law_stand","_law_tie"])(T:cw mg)(zLasks_of:Cl P w K mg base "_law_asks_of" i_ ["_law_web_here","_law_asked","_law_thing"] 1 3 gX):aF P w K mg base bS 2 f fd ["_law_web_here","_law_stand","_law_tie"] (el K 3 j9):=by
  obtain⟨Ol,Om,MQ,NJ⟩:=zLasks_of
  have nd:=BO.nd
  exact h.fn BO rfl rfl (fun cdv A outer s H E hr=>(@af _ _ _ _ _ _ _ _ (@qm _ _ _ _ _ _ _ _ (¬1) (@ij _ _ _ _ _ _ _ _ rfl rfl (@bc _ _ _ _ _ _ _ _ (@aI _ _ _ 3 _ nd rfl (Or.inl rfl) (by trivial)) (@bc _ _ _ _ _ _ _ _ (@aI _ _ _ 4 _ nd rfl (Or.inl rfl) (by trivial)) (@eN _ _) (by rfl)) (by rfl)) (bz (bz hZ)) (by rfl) (by rfl)) (by rfl) (by rfl) (by rfl))
      (@af _ _ _ _ _ _ _ _ (@cL _ _ _ _ _ _ _ _ _ _ _ (@rc _ _ _ _ (@qo _ _ _ _ _ _ _ _ (@aO _ _ _ _ _ _ _ _ _ (@wf _ _ _ rfl hr) (¬2) (¬3) (by with_unfolding_all rfl)) (@lD _ _ _ _ _ (@aO _ _ _ _ _ _ _ _ _ (@zJ _ _) (@aW _ _ _ _ _ _ _ _ _ (@b_len _ _ rfl) (by rfl) T.b_len ((¬3)∘ac) (by decide) (by decide) (by rfl) (by rfl)) (@b_ _ _ _ _ _ _ _ rfl (¬0) ae (fun _ _=>rfl)) (aG _)))))
      (@am _ _ _ _ _ (@aC _ _ _ _ _ (@om _ _ _ _ _)))
      (@bf _ _))
      (@af _ _ _ _ _ _ _ _ (@lC _ _ _ _ _ _ _ _ _ _ _ QH rfl (@fj _ _ _ _ _ rfl (@o6 _ _ _ _ _ _ _ _ _ _ rfl (@b_ _ _ _ _ _ _ _ rfl (@b_ _ _ _ _ _ _ _ rfl (¬0) ae (fun _ _=>rfl)) (¬2) (fun _ _=>rfl)) (@jI _ _) (@jJ _ _ _ _ ae))) (@aI _ _ _ 5 _ nd rfl (Or.inl rfl) (by trivial))
      (@am _ _ _ _ _ (@cL _ _ _ _ _ _ _ _ _ _ _ (@rc _ _ _ _ (@qo _ _ _ _ _ _ _ _ (@aO _ _ _ _ _ _ _ _ _ (@wf _ _ _ rfl hr) (¬5) (¬4) (by with_unfolding_all rfl)) (@lD _ _ _ _ _ (@aO _ _ _ _ _ _ _ _ _ (@zJ _ _) (@bI _ _ _ _ _ _ _ _ _ _ _ _ _ _ _ MQ NJ (hr.mono (by decide)) ((¬0)∘((¬3)∘((¬5)∘ac))) (by rfl) (by decide) (by rfl) (by rfl)) (@b_ _ _ _ _ _ _ _ rfl (@b_ _ _ _ _ _ _ _ rfl (¬0) ae (fun _ _=>rfl)) (¬5) (fun _ _=>rfl)) (aG _)))))
      (@am _ _ _ _ _ (@aC _ _ _ _ _ (@om _ _ _ _ _)))
      (@bf _ _))) (by intro _;rfl))
      (@am _ _ _ _ _ (@aC _ _ _ _ _ (@om _ _ _ _ _)))))))
noncomputable def pB:FS:=(aR (kY (ab 1) (cy (aL (aj 4) (aL (aj 5) bT))))
    (aR (bx 6 (ab 5))
    (aR (i8 (aA (ab 3))
    (bx 6 (az (g1 eG) (aa (az (g1 eY) (aa (ay cV (ab 5) (vV (ay dI (ay dI (ab 0) (vC (.int 1))) (ab 2)) gC (gb (vC (.int 2))))) ah)) ah)))
    cQ)
    (br (cM (aa (az (g1 eG) (aa (az (g1 eY) (aa (ay cV (ab 4) (cM (aa (ab 2) ah))) ah)) ah)) (aa (ab 6) ah)))))))
noncomputable def ic:FM:=iO 4 3 (([4]++([5]++[]))++([6]++(([6]++[])++[]))) pB
theorem sd:aw ["_law_web_here","_law_stand","_law_tie","_law_truth","_law_asked","_law_taken","_law_more"] ["_law_web_here","_law_stand","_law_tie","_law_truth"] (ag ke):=⟨rfl,rfl,rfl,by decide+kernel,rfl,by decide+kernel,by decide+kernel⟩
theorem yW(h:ee K mg "_law_behind" ke f fd ["_law_web_here","_law_stand","_law_tie","_law_truth"])(T:cw mg):aF P w K mg base bS 1 f fd ["_law_web_here","_law_stand","_law_tie","_law_truth"] (el K 4 ic):=by
  have nd:=sd.nd
  exact h.fn sd rfl rfl (fun cdv A outer s H E hr=>(@af _ _ _ _ _ _ _ _ (@qm _ _ _ _ _ _ _ _ (¬1) (@ij _ _ _ _ _ _ _ _ rfl rfl (@bc _ _ _ _ _ _ _ _ (@aI _ _ _ 4 _ nd rfl (Or.inl rfl) (by trivial)) (@bc _ _ _ _ _ _ _ _ (@aI _ _ _ 5 _ nd rfl (Or.inl rfl) (by trivial)) (@eN _ _) (by rfl)) (by rfl)) (bz (bz hZ)) (by rfl) (by rfl)) (by rfl) (by rfl) (by rfl))
      (@af _ _ _ _ _ _ _ _ (@aQ _ _ _ _ _ 6 _ _ nd rfl (Or.inl rfl) (¬5) (by rfl) (by trivial))
      (@af _ _ _ _ _ _ _ _ (@cL _ _ _ _ _ _ _ _ _ _ _ (@ik _ _ _ _ (¬3) (by intro _;rfl))
      (@am _ _ _ _ _ (@aQ _ _ _ _ _ 6 _ _ nd rfl (Or.inl rfl) (@aW _ _ _ _ _ _ _ _ _ (@b_tuple _ _ rfl) (by rfl) T.b_tuple ((@aW _ _ _ _ _ _ _ _ _ (@b_sorted _ _ rfl) (by rfl) T.b_sorted ((@dA _ _ _ _ _ _ _ rfl (¬5) (@o6 _ _ _ _ _ _ _ _ _ _ rfl (@b_ _ _ _ _ _ _ _ rfl (@b_ _ _ _ _ _ _ _ rfl (¬0) ae (fun _ _=>rfl)) (¬2) (fun _ _=>rfl)) (@jI _ _) (@jJ _ _ _ _ ae)))∘ac) (by decide) (by decide) (by rfl) (by rfl))∘ac) (by decide) (by decide) (by rfl) (by rfl)) (by rfl) (by trivial)))
      (@bf _ _))
      (@am _ _ _ _ _ (@aC _ _ _ _ _ (@bC _ _ _ _ _ _ ((@aW _ _ _ _ _ _ _ _ _ (@b_tuple _ _ rfl) (by rfl) T.b_tuple ((@aW _ _ _ _ _ _ _ _ _ (@b_sorted _ _ rfl) (by rfl) T.b_sorted ((@dA _ _ _ _ _ _ _ rfl (¬4) (@bC _ _ _ _ _ _ ((¬2)∘ac)))∘ac) (by decide) (by decide) (by rfl) (by rfl))∘ac) (by decide) (by decide) (by rfl) (by rfl))∘((¬6)∘ac)))))))))
noncomputable def j6:FI:=(di (aa (az (g1 hX) (aa (ay dI (ab 0) (vC (.int 1))) ah)) ah))
noncomputable def fL:FT:=(aA (dX 3 j9 (aa (ab 0) (aa (ab 1) (aa (ab 2) ah)))))
noncomputable def fP:FE:=(ab 2)
noncomputable def rj:FS:=(br (cZ [(0,"_law_web_here"),(1,"_law_stand")] 1 j6 (aj 2) fL fP))
noncomputable def iY:FM:=iO 2 0 [] rj
theorem qC:aw ["_law_web_here","_law_stand"] ["_law_web_here","_law_stand"] (ag i9):=⟨rfl,rfl,rfl,by decide+kernel,rfl,by decide+kernel,by decide+kernel⟩
theorem wR(h:ee K mg "_law_askable" i9 f fd ["_law_web_here","_law_stand"])(T:cw mg)(zLmay:Cl P w K mg base "_law_may" r9 ["_law_web_here","_law_stand","_law_tie"] 2 3 j9):aF P w K mg base bS 3 f fd ["_law_web_here","_law_stand"] (el K 2 iY):=by
  obtain⟨Oe,Of,Nu,NB⟩:=zLmay
  have nd:=qC.nd
  exact h.fn qC rfl rfl (fun cdv A outer s H E hr=>(@am _ _ _ _ _ (@aC _ _ _ _ _ (@eM _ _ _ _ _ _ _ _ _ _ _ _ _ [(0,"_law_web_here"),(1,"_law_stand")] ["_law_tie"] rfl rfl (@dr _ _ _ _ _ _ _ rfl T.b_range ((@aW _ _ _ _ _ _ _ _ _ (@b_len _ _ rfl) (by rfl) T.b_len ((@b_ _ _ _ _ _ _ _ rfl (¬0) ae (fun _ _=>rfl))∘ac) (by decide) (by decide) (by rfl) (by rfl))∘ac) (by rfl))
        (fun C s0 H0 fp=>(@aI _ _ _ 2 _ (show QB (["_law_web_here","_law_stand","_law_tie"]:List Str) by decide+kernel) rfl (Or.inl rfl) (by trivial))) (fun C s0 H0 fp=>(@jK _ _ _ _ (@ik _ _ _ _ (@bI _ _ _ _ _ _ _ _ _ _ _ _ _ _ _ Nu NB (hr.mono (by decide)) ((¬0)∘((¬1)∘((¬2)∘ac))) (by rfl) (by decide) (by rfl) (by rfl)) (by intro _;rfl))))
        (fun C s0 H0 fp=>(¬2)) rfl (by rfl) (by intro _;rfl)))))
noncomputable def Ai:FI:=(j7 (ab 1))
noncomputable def zI:FT:=(aA (ab 2))
noncomputable def zW:FE:=(ay dI (ay dI (ay dI (ab 0) (vC (.int 1))) (ab 1)) (vC (.int 3)))
noncomputable def Fj:FS:=(br (az (g1 (j5 xS)) (aa (cZ [(0,"_law_web_here")] 2 Ai (cy (aL (aj 1) (aL (aj 2) bT))) zI zW) ah)))
noncomputable def wM:FM:=iO 2 0 [] Fj
theorem yh:aw ["_law_web_here","_law_run"] ["_law_web_here","_law_run"] (ag qt):=⟨rfl,rfl,rfl,by decide+kernel,rfl,by decide+kernel,by decide+kernel⟩
theorem De(h:ee K mg "_law_kept" qt f fd ["_law_web_here","_law_run"])(T:cw mg):aF P w K mg base bS 1 f fd ["_law_web_here","_law_run"] (el K 2 wM):=by
  have nd:=yh.nd
  exact h.fn yh rfl rfl (fun cdv A outer s H E hr=>(@am _ _ _ _ _ (@aC _ _ _ _ _ (@aW _ _ _ _ _ _ _ _ _ (@b_sum _ _ _ rfl hr) (by rfl) T.b_sum ((@eM _ _ _ _ _ _ _ _ _ _ _ _ _ [(0,"_law_web_here")] ["_law_tie","_law_truth"] rfl rfl (@fj _ _ _ _ _ rfl (¬1))
        (fun C s0 H0 fp=>(@ij _ _ _ _ _ _ _ _ rfl rfl (@bc _ _ _ _ _ _ _ _ (@aI _ _ _ 1 _ (show QB (["_law_web_here","_law_tie","_law_truth"]:List Str) by decide+kernel) rfl (Or.inl rfl) (by trivial)) (@bc _ _ _ _ _ _ _ _ (@aI _ _ _ 2 _ (show QB (["_law_web_here","_law_tie","_law_truth"]:List Str) by decide+kernel) rfl (Or.inl rfl) (by trivial)) (@eN _ _) (by rfl)) (by rfl)) (bz (bz hZ)) (by rfl) (by rfl))) (fun C s0 H0 fp=>(@jK _ _ _ _ (@ik _ _ _ _ (¬2) (by intro _;rfl))))
        (fun C s0 H0 fp=>(@b_ _ _ _ _ _ _ _ rfl (@b_ _ _ _ _ _ _ _ rfl (@b_ _ _ _ _ _ _ _ rfl (¬0) ae (fun _ _=>rfl)) (¬1) (fun _ _=>rfl)) ae (fun _ _=>rfl))) rfl (by rfl) (by intro _;rfl))∘ac) (by decide) (by decide) (by rfl) (by rfl)))))
noncomputable def mj:FI:=(j7 (ab 1))
noncomputable def lM:FS:=(bx 2 (dX 4 ic (aa (ab 0) (aa (ab 2) (aa (ab 3) (aa (ab 4) ah))))))
noncomputable def pE:FS:=(aR (bx 2 (cM (aa (cM ah) (aa (cM ah) ah))))
    (aR (iM (([3]++([4]++[]))++[2]) mj (cy (aL (aj 3) (aL (aj 4) bT))) lM)
    (br (ab 2))))
noncomputable def ie:FM:=iO 2 3 ([2]++((([3]++([4]++[]))++[2])++[])) pE
theorem oq:aw ["_law_web_here","_law_run","_law_stand","_law_tie","_law_truth"] ["_law_web_here","_law_run"] (ag ir):=⟨rfl,rfl,rfl,by decide+kernel,rfl,by decide+kernel,by decide+kernel⟩
theorem vg(h:ee K mg "_law_stand_of" ir f fd ["_law_web_here","_law_run"])(T:cw mg)(zLbehind:Cl P w K mg base "_law_behind" ke ["_law_web_here","_law_stand","_law_tie","_law_truth"] 1 4 ic):aF P w K mg base bS 2 f fd ["_law_web_here","_law_run"] (el K 2 ie):=by
  obtain⟨Ov,Ow,M1,NS⟩:=zLbehind
  have nd:=oq.nd
  exact h.fn oq rfl rfl (fun cdv A outer s H E hr=>(@af _ _ _ _ _ _ _ _ (@aQ _ _ _ _ _ 2 _ _ nd rfl (Or.inl rfl) (@bC _ _ _ _ _ _ ((@bC _ _ _ _ _ _ ac)∘((@bC _ _ _ _ _ _ ac)∘ac))) (by rfl) (by trivial))
      (@af _ _ _ _ _ _ _ _ (@lC _ _ _ _ _ _ _ _ _ _ _ QH rfl (@fj _ _ _ _ _ rfl (¬1)) (@ij _ _ _ _ _ _ _ _ rfl rfl (@bc _ _ _ _ _ _ _ _ (@aI _ _ _ 3 _ nd rfl (Or.inl rfl) (by trivial)) (@bc _ _ _ _ _ _ _ _ (@aI _ _ _ 4 _ nd rfl (Or.inl rfl) (by trivial)) (@eN _ _) (by rfl)) (by rfl)) (bz (bz hZ)) (by rfl) (by rfl))
      (@am _ _ _ _ _ (@aQ _ _ _ _ _ 2 _ _ nd rfl (Or.inl rfl) (@bI _ _ _ _ _ _ _ _ _ _ _ _ _ _ _ M1 NS (hr.mono (by decide)) ((¬0)∘((¬2)∘((¬3)∘((¬4)∘ac)))) (by rfl) (by decide) (by rfl) (by rfl)) (by rfl) (by trivial))) (by intro _;rfl))
      (@am _ _ _ _ _ (@aC _ _ _ _ _ (¬2))))))
noncomputable def mi:FI:=(j7 (ab 0))
noncomputable def lV:FE:=(az (g1 eF) (aa (ab 0) ah))
noncomputable def pC:FS:=(aR (i8 (aA (ay (bi false) (ab 0) (ek ah)))
    (br (vC (.str ("none":Str))))
    cQ)
    (br (ay nZ (vC (.str (" ":Str))) (cZ [] 1 mi (aj 0) kh lV))))
noncomputable def e6:FM:=iO 1 0 (([]++[])++[]) pC
theorem oo:aw ["_law_numbers"] ["_law_numbers"] (ag ip):=⟨rfl,rfl,rfl,by decide+kernel,rfl,by decide+kernel,by decide+kernel⟩
theorem vf(h:ee K mg "_law_row_text" ip f fd ["_law_numbers"])(T:cw mg):aF P w K mg base bS 1 f fd ["_law_numbers"] (el K 1 e6):=by
  have nd:=oo.nd
  exact h.fn oo rfl rfl (fun cdv A outer s H E hr=>(@af _ _ _ _ _ _ _ _ (@cL _ _ _ _ _ _ _ _ _ _ _ (@aO _ _ _ _ _ _ _ _ _ (@iA _ _ _ rfl hr) (¬0) (@cG _ _ _ _ _ ac) (aG _))
      (@am _ _ _ _ _ (@aC _ _ _ _ _ (@aE _ _ _ _ _)))
      (@bf _ _))
      (@am _ _ _ _ _ (@aC _ _ _ _ _ (@Bi _ _ _ _ _ _ _ _ _ rfl (@eM _ _ _ _ _ _ _ _ _ _ _ _ _ [] ["_law_number"] rfl rfl (@fj _ _ _ _ _ rfl (¬0))
        (fun C s0 H0 fp=>(@aI _ _ _ 0 _ (show QB (["_law_number"]:List Str) by decide+kernel) rfl (Or.inl rfl) (by trivial))) (fun C s0 H0 fp=>(@pe _ _))
        (fun C s0 H0 fp=>(@aW _ _ _ _ _ _ _ _ _ (@b_str _ _) (by rfl) T.b_str ((¬0)∘ac) (by decide) (by decide) (by rfl) (by rfl))) rfl (by rfl) (by intro _;rfl)) (by rfl) (by rfl) (by rfl) (by rfl) (by rfl))))))
noncomputable def CO:FI:=(j7 (ab 3))
noncomputable def Cw:FT:=(aA (ab 1))
noncomputable def CF:FE:=(ab 0)
noncomputable def jp:XS:=(qz 1 3 4 ([5]++((([6]++(([]++[])++([]++[])))++[])++(((([]++[])++([6]++([]++[])))++[])++(([]++[])++(([]++[])++(([]++[])++(([]++[])++([]++[])))))))) (aR (bx 5 (dX 2 ie (aa (ab 0) (aa (ab 3) ah))))
    (aR (i8 (aA (ay (bi false) (oS (ab 2) gC (gb (vC (.int 4)))) (vC (.str ("ask ":Str)))))
    (aR (bx 6 (az (g1 jw) (aa (oS (ab 2) (gb (vC (.int 4))) gC) ah)))
    (aR (i8 (ul (aA (ay (bi true) (ab 4) (ek ah))) (lJ (aA (dX 3 j9 (aa (ab 0) (aa (ab 5) (aa (ab 6) ah)))))))
    (br (vC (.str ("NoAsk":Str))))
    cQ)
    (aR (eQ (ci bH (ab 4) (aa (ab 6) ah)))
    (br (vC (.str ("asked":Str)))))))
    cQ)
    (aR (i8 (ul (aA (ay (bi false) (ab 2) (vC (.str ("yes":Str))))) (aA (ay (bi false) (ab 2) (vC (.str ("no":Str))))))
    (aR (i8 (aA (ay (bi false) (ab 4) (ek ah)))
    (br (vC (.str ("NoAsk":Str))))
    cQ)
    (aR (bx 6 (ci mx (ab 4) ah))
    (aR (eQ (ci bH (ab 3) (aa (cM (aa (ab 6) (aa (ay (bi false) (ab 2) (vC (.str ("yes":Str)))) ah))) ah)))
    (br (ay dI (ek (aa (vC (.str ("gone":Str))) (aa (ay fV (vC (.str ("kept ":Str))) (az (g1 eF) (aa (ay dI (ay dI (ay dI (ab 0) (vC (.int 1))) (ab 6)) (vC (.int 3))) ah))) ah))) (az (g1 pP) (aa (ay (bi false) (ab 2) (vC (.str ("yes":Str)))) ah)))))))
    cQ)
    (aR (i8 (aA (ay (bi false) (ab 2) (vC (.str ("may":Str)))))
    (br (dX 1 e6 (aa (dX 2 iY (aa (ab 0) (aa (ab 5) ah))) ah)))
    cQ)
    (aR (i8 (aA (ay (bi false) (ab 2) (vC (.str ("kept":Str)))))
    (br (ay fV (ay fV (dX 1 e6 (aa (cZ [] 2 CO (cy (aL (aj 0) (aL (aj 1) bT))) Cw CF) ah)) (vC (.str (" ":Str)))) (az (g1 eF) (aa (dX 2 wM (aa (ab 0) (aa (ab 3) ah))) ah))))
    cQ)
    (aR (i8 (lI (aA (ay (bi false) (ab 4) (ek ah))) (aA (ay (bi false) (ab 3) (ek ah))))
    (br (vC (.str ("NoAsk":Str))))
    cQ)
    (aR (i8 (aA (ay (bi false) (ab 4) (ek ah)))
    (eQ (ci mx (ab 3) ah))
    cQ)
    (aR (eQ (ci tR (ab 4) ah))
    (br (vC (.str ("back":Str)))))))))))))
noncomputable def cO:MX:=dZ 3 4 (3::4::([5]++((([6]++(([]++[])++([]++[])))++[])++(((([]++[])++([6]++([]++[])))++[])++(([]++[])++(([]++[])++(([]++[])++(([]++[])++([]++[]))))))))) (jp)
theorem BL:aw ["_law_web_here","_law_state","_law_line_here","_law_run","_law_waiting","_law_stand","_law_tie"] ["_law_web_here","_law_state","_law_line_here"] (ag vB):=⟨rfl,rfl,rfl,by decide+kernel,rfl,by decide+kernel,by decide+kernel⟩
theorem Di{P:OZ}{w:OW}{K:OU}{C:xM}{mg:Str→Option OR}{base:OY}{f:xM}{fd:Pj}(h:ee K mg "_law_due" vB f fd ["_law_web_here","_law_state","_law_line_here"])(T:cw mg){Na:xM}{Nb:Pj}(MB:ee K mg "_law_stand_of" ir Na Nb ["_law_web_here","_law_run"])(MJ:aF P w K mg base bS 2 Na Nb ["_law_web_here","_law_run"] (el K 2 ie)){Nc:xM}{Nf:Pj}(Mq:ee K mg "_law_row_text" ip Nc Nf ["_law_numbers"])(MC:aF P w K mg base bS 1 Nc Nf ["_law_numbers"] (el K 1 e6)){Nl:xM}{Nm:Pj}(MH:ee K mg "_law_askable" i9 Nl Nm ["_law_web_here","_law_stand"])(MS:aF P w K mg base bS 3 Nl Nm ["_law_web_here","_law_stand"] (el K 2 iY)){Oe:xM}{Of:Pj}(Nu:ee K mg "_law_may" r9 Oe Of ["_law_web_here","_law_stand","_law_tie"])(NB:aF P w K mg base bS 2 Oe Of ["_law_web_here","_law_stand","_law_tie"] (el K 3 j9)){NZ:xM}{N5:Pj}(Nn:ee K mg "_law_kept" qt NZ N5 ["_law_web_here","_law_run"])(Nx:aF P w K mg base bS 1 NZ N5 ["_law_web_here","_law_run"] (el K 2 wM)):aF P w K mg base bS 4 f fd ["_law_web_here","_law_state","_law_line_here"] (kR K C 3 (cO)):=by
  have nd:=BL.nd
  exact h.F.okY BL rfl rfl (fun cdv A outer s H E hr=>(@za _ _ _ _ _ _ _ _ _ _ _ 1 3 4 _ _ _ _ rfl rfl (@aX _ 1 _ _ (by rfl) (by first | exact Or.inl rfl | exact Or.inr (Or.inl rfl) | exact Or.inr (Or.inr rfl)) (by decide) (by decide)) nd rfl rfl (Or.inl rfl) (Or.inl rfl) (by trivial) (by trivial) (by rfl) (by rfl) (by rfl) (by rfl) (by rfl) (by rfl) (by rfl) (@af _ _ _ _ _ _ _ _ (@aQ _ _ _ _ _ 5 _ _ nd rfl (Or.inl rfl) (@bI _ _ _ _ _ _ _ _ _ _ _ _ _ _ _ MB MJ (hr.mono (by decide)) ((¬0)∘((¬3)∘ac)) (by rfl) (by decide) (by rfl) (by rfl)) (by rfl) (by trivial))
      (@af _ _ _ _ _ _ _ _ (@cL _ _ _ _ _ _ _ _ _ _ _ (@aO _ _ _ _ _ _ _ _ _ (@iA _ _ _ rfl hr) (@vt _ _ _ _ _ _ _ _ _ _ (¬2) (@jI _ _) (@jJ _ _ _ _ ae)) (@aE _ _ _ _ _) (aG _))
      (@af _ _ _ _ _ _ _ _ (@aQ _ _ _ _ _ 6 _ _ nd rfl (Or.inl rfl) (@aW _ _ _ _ _ _ _ _ _ (@xJ _ _) (by rfl) T.b_int ((@vt _ _ _ _ _ _ _ _ _ _ (¬2) (@jJ _ _ _ _ ae) (@jI _ _))∘ac) (by decide) (by decide) (by rfl) (by rfl)) (by rfl) (by trivial))
      (@af _ _ _ _ _ _ _ _ (@cL _ _ _ _ _ _ _ _ _ _ _ (@rc _ _ _ _ (@qo _ _ _ _ _ _ _ _ (@aO _ _ _ _ _ _ _ _ _ (@wk _ _ _ rfl hr) (¬4) (@cG _ _ _ _ _ ac) (aG _)) (@lD _ _ _ _ _ (@xc _ _ _ _ _ (@ik _ _ _ _ (@bI _ _ _ _ _ _ _ _ _ _ _ _ _ _ _ Nu NB (hr.mono (by decide)) ((¬0)∘((¬5)∘((¬6)∘ac))) (by rfl) (by decide) (by rfl) (by rfl)) (by intro _;rfl))))))
      (@am _ _ _ _ _ (@aC _ _ _ _ _ (@aE _ _ _ _ _)))
      (@bf _ _))
      (@af _ _ _ _ _ _ _ _ (@gR _ _ _ _ _ (@ii _ _ _ _ _ _ _ _ _ rfl (¬4) ((¬6)∘ac) (by rfl) (by rfl) (by rfl) (by rfl) (by rfl)) (by rfl))
      (@am _ _ _ _ _ (@aC _ _ _ _ _ (@aE _ _ _ _ _))))))
      (@bf _ _))
      (@af _ _ _ _ _ _ _ _ (@cL _ _ _ _ _ _ _ _ _ _ _ (@rc _ _ _ _ (@qo _ _ _ _ _ _ _ _ (@aO _ _ _ _ _ _ _ _ _ (@iA _ _ _ rfl hr) (¬2) (@aE _ _ _ _ _) (aG _)) (@lD _ _ _ _ _ (@aO _ _ _ _ _ _ _ _ _ (@iA _ _ _ rfl hr) (¬2) (@aE _ _ _ _ _) (aG _)))))
      (@af _ _ _ _ _ _ _ _ (@cL _ _ _ _ _ _ _ _ _ _ _ (@aO _ _ _ _ _ _ _ _ _ (@iA _ _ _ rfl hr) (¬4) (@cG _ _ _ _ _ ac) (aG _))
      (@am _ _ _ _ _ (@aC _ _ _ _ _ (@aE _ _ _ _ _)))
      (@bf _ _))
      (@af _ _ _ _ _ _ _ _ (@aQ _ _ _ _ _ 6 _ _ nd rfl (Or.inl rfl) (@EM _ _ _ _ _ _ rfl (¬4) (by rfl) (by rfl)) (by rfl) (by trivial))
      (@af _ _ _ _ _ _ _ _ (@gR _ _ _ _ _ (@ii _ _ _ _ _ _ _ _ _ rfl (¬3) ((@bC _ _ _ _ _ _ ((¬6)∘((@ol _ _ _ _ _ _ _ _ _ (@iA _ _ _ rfl hr) (¬2) (@aE _ _ _ _ _) (aG _))∘ac)))∘ac) (by rfl) (by rfl) (by rfl) (by rfl) (by rfl)) (by rfl))
      (@am _ _ _ _ _ (@aC _ _ _ _ _ (@b_ _ _ _ _ _ _ _ rfl (@cG _ _ _ _ _ ((@aE _ _ _ _ _)∘((@nF _ _ _ _ _ _ _ (@aE _ _ _ _ _) (@aW _ _ _ _ _ _ _ _ _ (@b_str _ _) (by rfl) T.b_str ((@b_ _ _ _ _ _ _ _ rfl (@b_ _ _ _ _ _ _ _ rfl (@b_ _ _ _ _ _ _ _ rfl (¬0) ae (fun _ _=>rfl)) (¬6) (fun _ _=>rfl)) ae (fun _ _=>rfl))∘ac) (by decide) (by decide) (by rfl) (by rfl)))∘ac))) (@aW _ _ _ _ _ _ _ _ _ (@b_int _ _) (by rfl) T.b_int ((@ol _ _ _ _ _ _ _ _ _ (@iA _ _ _ rfl hr) (¬2) (@aE _ _ _ _ _) (aG _))∘ac) (by decide) (by decide) (by rfl) (by rfl)) (fun _ _=>rfl)))))))
      (@bf _ _))
      (@af _ _ _ _ _ _ _ _ (@cL _ _ _ _ _ _ _ _ _ _ _ (@aO _ _ _ _ _ _ _ _ _ (@iA _ _ _ rfl hr) (¬2) (@aE _ _ _ _ _) (aG _))
      (@am _ _ _ _ _ (@aC _ _ _ _ _ (@bI _ _ _ _ _ _ _ _ _ _ _ _ _ _ _ Mq MC (hr.mono (by decide)) ((@bI _ _ _ _ _ _ _ _ _ _ _ _ _ _ _ MH MS (hr.mono (by decide)) ((¬0)∘((¬5)∘ac)) (by rfl) (by decide) (by rfl) (by rfl))∘ac) (by rfl) (by decide) (by rfl) (by rfl))))
      (@bf _ _))
      (@af _ _ _ _ _ _ _ _ (@cL _ _ _ _ _ _ _ _ _ _ _ (@aO _ _ _ _ _ _ _ _ _ (@iA _ _ _ rfl hr) (¬2) (@aE _ _ _ _ _) (aG _))
      (@am _ _ _ _ _ (@aC _ _ _ _ _ (@nF _ _ _ _ _ _ _ (@nF _ _ _ _ _ _ _ (@bI _ _ _ _ _ _ _ _ _ _ _ _ _ _ _ Mq MC (hr.mono (by decide)) ((@eM _ _ _ _ _ _ _ _ _ _ _ _ _ [] ["_law_tie","_law_truth"] rfl rfl (@fj _ _ _ _ _ rfl (¬3))
        (fun C s0 H0 fp=>(@ij _ _ _ _ _ _ _ _ rfl rfl (@bc _ _ _ _ _ _ _ _ (@aI _ _ _ 0 _ (show QB (["_law_tie","_law_truth"]:List Str) by decide+kernel) rfl (Or.inl rfl) (by trivial)) (@bc _ _ _ _ _ _ _ _ (@aI _ _ _ 1 _ (show QB (["_law_tie","_law_truth"]:List Str) by decide+kernel) rfl (Or.inl rfl) (by trivial)) (@eN _ _) (by rfl)) (by rfl)) (bz (bz hZ)) (by rfl) (by rfl))) (fun C s0 H0 fp=>(@jK _ _ _ _ (@ik _ _ _ _ (¬1) (by intro _;rfl))))
        (fun C s0 H0 fp=>(¬0)) rfl (by rfl) (by intro _;rfl))∘ac) (by rfl) (by decide) (by rfl) (by rfl)) (@aE _ _ _ _ _)) (@aW _ _ _ _ _ _ _ _ _ (@b_str _ _) (by rfl) T.b_str ((@bI _ _ _ _ _ _ _ _ _ _ _ _ _ _ _ Nn Nx (hr.mono (by decide)) ((¬0)∘((¬3)∘ac)) (by rfl) (by decide) (by rfl) (by rfl))∘ac) (by decide) (by decide) (by rfl) (by rfl)))))
      (@bf _ _))
      (@af _ _ _ _ _ _ _ _ (@cL _ _ _ _ _ _ _ _ _ _ _ (@rc _ _ _ _ (@xf _ _ _ _ _ _ _ _ (@aO _ _ _ _ _ _ _ _ _ (@iA _ _ _ rfl hr) (¬4) (@cG _ _ _ _ _ ac) (aG _)) (@t9 _ _ _ _ _ (@aO _ _ _ _ _ _ _ _ _ (@iA _ _ _ rfl hr) (¬3) (@cG _ _ _ _ _ ac) (aG _)))))
      (@am _ _ _ _ _ (@aC _ _ _ _ _ (@aE _ _ _ _ _)))
      (@bf _ _))
      (@af _ _ _ _ _ _ _ _ (@cL _ _ _ _ _ _ _ _ _ _ _ (@aO _ _ _ _ _ _ _ _ _ (@iA _ _ _ rfl hr) (¬4) (@cG _ _ _ _ _ ac) (aG _))
      (@am _ _ _ _ _ (@gR _ _ _ _ _ (@EM _ _ _ _ _ _ rfl (¬3) (by rfl) (by rfl)) (by rfl)))
      (@bf _ _))
      (@af _ _ _ _ _ _ _ _ (@gR _ _ _ _ _ (@DM _ _ _ _ _ _ rfl (¬4) (by rfl) (by rfl)) (by rfl))
      (@am _ _ _ _ _ (@aC _ _ _ _ _ (@aE _ _ _ _ _)))))))))))))
noncomputable def sS:FS:=(aR (bx 3 (dX 1 bQ (aa (ab 0) ah)))
    (aR (bx 4 (ay dI (ab 2) (ay bD (ab 3) (az (g1 hX) (aa (ab 2) ah)))))
    (aR (i8 (aA (ay (bi true) (ab 4) (vC (.str ("ask":Str)))))
    (br (ab 4))
    cQ)
    (aR (i8 (aA (ay (bi false) (ay dI (ab 1) (vC (.int 1))) (cM ah)))
    (br (vC (.str ("yes":Str))))
    cQ)
    (br (ay fV (vC (.str ("ask ":Str))) (az (g1 eF) (aa (ay bD (ay hV (ab 3) (vC (.int 64))) (az (g1 hX) (aa (ay dI (ab 1) (vC (.int 1))) ah))) ah))))))))
noncomputable def ly:FM:=iO 3 2 ([3]++([4]++(([]++[])++(([]++[])++[])))) sS
theorem yi:aw ["_law_drawn","_law_web_here","_law_menu","_law_number","_law_word"] ["_law_drawn","_law_web_here","_law_menu"] (ag qu):=⟨rfl,rfl,rfl,by decide+kernel,rfl,by decide+kernel,by decide+kernel⟩
theorem Df(h:ee K mg "_law_line" qu f fd ["_law_drawn","_law_web_here","_law_menu"])(T:cw mg)(zLnext:Cl P w K mg base "_law_next" lE ["_law_drawn"] 1 1 bQ):aF P w K mg base bS 2 f fd ["_law_drawn","_law_web_here","_law_menu"] (el K 3 ly):=by
  obtain⟨NX,NY,Mj,Mo⟩:=zLnext
  have nd:=yi.nd
  exact h.fn yi rfl rfl (fun cdv A outer s H E hr=>(@af _ _ _ _ _ _ _ _ (@aQ _ _ _ _ _ 3 _ _ nd rfl (Or.inl rfl) (@bI _ _ _ _ _ _ _ _ _ _ _ _ _ _ _ Mj Mo (hr.mono (by decide)) ((¬0)∘ac) (by rfl) (by decide) (by rfl) (by rfl)) (by rfl) (by trivial))
      (@af _ _ _ _ _ _ _ _ (@aQ _ _ _ _ _ 4 _ _ nd rfl (Or.inl rfl) (@b_ _ _ _ _ _ _ _ rfl (¬2) (@bB _ _ _ _ _ _ _ (¬3) (@aW _ _ _ _ _ _ _ _ _ (@b_len _ _ rfl) (by rfl) T.b_len ((¬2)∘ac) (by decide) (by decide) (by rfl) (by rfl))) (fun _ _=>rfl)) (by rfl) (by trivial))
      (@af _ _ _ _ _ _ _ _ (@cL _ _ _ _ _ _ _ _ _ _ _ (@aO _ _ _ _ _ _ _ _ _ (@wk _ _ _ rfl hr) (¬4) (@aE _ _ _ _ _) (aG _))
      (@am _ _ _ _ _ (@aC _ _ _ _ _ (¬4)))
      (@bf _ _))
      (@af _ _ _ _ _ _ _ _ (@cL _ _ _ _ _ _ _ _ _ _ _ (@aO _ _ _ _ _ _ _ _ _ (@iA _ _ _ rfl hr) (@b_ _ _ _ _ _ _ _ rfl (¬1) ae (fun _ _=>rfl)) (@bC _ _ _ _ _ _ ac) (aG _))
      (@am _ _ _ _ _ (@aC _ _ _ _ _ (@aE _ _ _ _ _)))
      (@bf _ _))
      (@am _ _ _ _ _ (@aC _ _ _ _ _ (@nF _ _ _ _ _ _ _ (@aE _ _ _ _ _) (@aW _ _ _ _ _ _ _ _ _ (@b_str _ _) (by rfl) T.b_str ((@bB _ _ _ _ _ _ _ (@kd _ _ _ _ _ _ _ (¬3) ae) (@aW _ _ _ _ _ _ _ _ _ (@b_len _ _ rfl) (by rfl) T.b_len ((@b_ _ _ _ _ _ _ _ rfl (¬1) ae (fun _ _=>rfl))∘ac) (by decide) (by decide) (by rfl) (by rfl)))∘ac) (by decide) (by decide) (by rfl) (by rfl))))))))))
noncomputable def ck:XS:=(aZ (ed (bR (ji HI (cf 0 "waiting") (ar (vC .none))))
    (bO (ar (vC (.str ("NoAsk":Str)))))
    cg)
    (aZ (gE 2 (cf 0 "waiting"))
    (aZ (gD 0 "run" (ji cV (cf 0 "run") (ar (cM (aa (cM (aa (ab 2) (aa (ab 1) ah))) ah)))))
    (aZ (gD 0 "waiting" (ar (vC .none)))
    (bO (xC (dM (aA (ab 1))) (B8 ("kept ":Str) (ji dI (ji dI (ji dI (cf 0 "web") (ar (vC (.int 1)))) (ar (ab 2))) (ar (vC (.int 3))))) (ar (vC (.str ("gone":Str))))))))))
noncomputable def aT:MX:=dZ 2 1 (([]++[])++([2]++([]++([]++[])))) (ck)
theorem gF:aw ["self","truth","tie"] ["self","truth"] (ag cI):=⟨rfl,rfl,rfl,by decide+kernel,rfl,by decide+kernel,by decide+kernel⟩
theorem kb{P:OZ}{w:OW}{K:OU}{C:xM}{mg:Str→Option OR}{base:OY}{f:xM}{fd:Pj}(hF:rh K "take_answer" "Desk.take_answer" cI f fd)(T:cw mg)(cl:oT K C)(na_run:bF K C "run")(na_waiting:bF K C "waiting")(na_web:bF K C "web"):aF P w K mg base bS 1 f fd ["self","truth"] (kR K C 2 (aT)):=by
  have nd:=gF.nd
  exact hF.okY gF rfl rfl (fun cdv A outer s H E hr=>(@aH _ _ _ _ _ _ _ _ _ (@gw _ _ _ _ _ _ _ _ _ _ _ _ (@o_ _ _ _ _ _ _ _ _ _ _ (@HZ _ _) (@bW _ _ _ _ 0 _ _ _ rfl cl na_waiting (@aX _ 0 _ _ (by rfl) (by first | exact Or.inl rfl | exact Or.inr (Or.inl rfl) | exact Or.inr (Or.inr rfl)) (by decide) (by decide)) (by rfl)) (@ao _ _ _ _ _ (@gu _ _ _ _)) (aG _)) (@aY _ _ _ _ _ _ (@cH _ _ _ _ _ _ (@ao _ _ _ _ _ (@aE _ _ _ _ _)))) (@dN _ _ _))
       (@aH _ _ _ _ _ _ _ _ _ (@mM _ _ _ _ _ _ 2 _ _ nd rfl (Or.inl rfl) (@bW _ _ _ _ 0 _ _ _ rfl cl na_waiting (@aX _ 0 _ _ (by rfl) (by first | exact Or.inl rfl | exact Or.inr (Or.inl rfl) | exact Or.inr (Or.inr rfl)) (by decide) (by decide)) (by rfl)) (by rfl) (by trivial))
       (@aH _ _ _ _ _ _ _ _ _ (@iD _ _ _ _ _ _ 0 _ _ _ _ rfl cl na_run (@aX _ 0 _ _ (by rfl) (by first | exact Or.inl rfl | exact Or.inr (Or.inl rfl) | exact Or.inr (Or.inr rfl)) (by decide) (by decide)) (@G3 _ _ _ _ _ _ _ _ rfl (@bW _ _ _ _ 0 _ _ _ rfl cl na_run (@aX _ 0 _ _ (by rfl) (by first | exact Or.inl rfl | exact Or.inr (Or.inl rfl) | exact Or.inr (Or.inr rfl)) (by decide) (by decide)) (by rfl)) (@ao _ _ _ _ _ (@bC _ _ _ _ _ _ ((@bC _ _ _ _ _ _ ((¬2)∘((¬1)∘ac)))∘ac)))) (by rfl))
       (@aH _ _ _ _ _ _ _ _ _ (@iD _ _ _ _ _ _ 0 _ _ _ _ rfl cl na_waiting (@aX _ 0 _ _ (by rfl) (by first | exact Or.inl rfl | exact Or.inr (Or.inl rfl) | exact Or.inr (Or.inr rfl)) (by decide) (by decide)) (@ao _ _ _ _ _ (@gu _ _ _ _)) (by rfl))
       (@aY _ _ _ _ _ _ (@cH _ _ _ _ _ _ (@r6 _ _ _ _ _ _ _ _ _ _ (@gc _ _ _ _ _ (@ik _ _ _ _ (¬1) (by intro _;rfl))) (@Jb _ _ _ _ _ _ _ _ _ _ (@Be _ _ _ _ _ _ _ _ rfl (@Be _ _ _ _ _ _ _ _ rfl (@Be _ _ _ _ _ _ _ _ rfl (@bW _ _ _ _ 0 _ _ _ rfl cl na_web (@aX _ 0 _ _ (by rfl) (by first | exact Or.inl rfl | exact Or.inr (Or.inl rfl) | exact Or.inr (Or.inr rfl)) (by decide) (by decide)) (by rfl)) (@ao _ _ _ _ _ ae) (fun _ _=>rfl)) (@ao _ _ _ _ _ (¬2)) (fun _ _=>rfl)) (@ao _ _ _ _ _ ae) (fun _ _=>rfl))) (@ao _ _ _ _ _ (@aE _ _ _ _ _))))))))))
noncomputable def lQ:XS:=(aZ (ed (bR (ji lx (cf 0 "waiting") (ar (vC .none))))
    (gD 0 "waiting" (ar (vC .none)))
    (ed (bR (ji Ey (uj (g1 hX) (ce (cf 0 "run") jg)) (ar (vC (.int 0)))))
    (gD 0 "run" (HA (cf 0 "run") none (some (-1))))
    (bO (ar (vC (.str ("NoAsk":Str)))))))
    (bO (ar (vC (.str ("back":Str))))))
noncomputable def eL:MX:=dZ 1 0 (([]++([]++[]))++[]) (lQ)
theorem iF:aw ["self"] ["self"] (ag du):=⟨rfl,rfl,rfl,by decide+kernel,rfl,by decide+kernel,by decide+kernel⟩
theorem lz{P:OZ}{w:OW}{K:OU}{C:xM}{mg:Str→Option OR}{base:OY}{f:xM}{fd:Pj}(hF:rh K "take_back" "Desk.take_back" du f fd)(T:cw mg)(cl:oT K C)(na_run:bF K C "run")(na_waiting:bF K C "waiting"):aF P w K mg base bS 1 f fd ["self"] (kR K C 1 (eL)):=by
  have nd:=iF.nd
  exact hF.okY iF rfl rfl (fun cdv A outer s H E hr=>(@aH _ _ _ _ _ _ _ _ _ (@gw _ _ _ _ _ _ _ _ _ _ _ _ (@o_ _ _ _ _ _ _ _ _ _ _ (@sW _ _) (@bW _ _ _ _ 0 _ _ _ rfl cl na_waiting (@aX _ 0 _ _ (by rfl) (by first | exact Or.inl rfl | exact Or.inr (Or.inl rfl) | exact Or.inr (Or.inr rfl)) (by decide) (by decide)) (by rfl)) (@ao _ _ _ _ _ (@gu _ _ _ _)) (aG _)) (@aY _ _ _ _ _ _ (@iD _ _ _ _ _ _ 0 _ _ _ _ rfl cl na_waiting (@aX _ 0 _ _ (by rfl) (by first | exact Or.inl rfl | exact Or.inr (Or.inl rfl) | exact Or.inr (Or.inr rfl)) (by decide) (by decide)) (@ao _ _ _ _ _ (@gu _ _ _ _)) (by rfl))) (@aY _ _ _ _ _ _ (@gw _ _ _ _ _ _ _ _ _ _ _ _ (@o_ _ _ _ _ _ _ _ _ _ _ (@zK _ _) (@G4 _ _ _ _ _ _ _ _ _ (@b_len _ _ rfl) (by rfl) T.b_len (@k8 _ _ _ _ _ _ _ (@bW _ _ _ _ 0 _ _ _ rfl cl na_run (@aX _ 0 _ _ (by rfl) (by first | exact Or.inl rfl | exact Or.inr (Or.inl rfl) | exact Or.inr (Or.inr rfl)) (by decide) (by decide)) (by rfl)) (@mK _ _ _) (by rfl)) (by decide) (by decide) _ (by rfl) (by rfl)) (@ao _ _ _ _ _ ae) (aG _)) (@aY _ _ _ _ _ _ (@iD _ _ _ _ _ _ 0 _ _ _ _ rfl cl na_run (@aX _ 0 _ _ (by rfl) (by first | exact Or.inl rfl | exact Or.inr (Or.inl rfl) | exact Or.inr (Or.inr rfl)) (by decide) (by decide)) (@Bh _ _ _ _ _ _ _ _ _ none (some (-1)) rfl (@bW _ _ _ _ 0 _ _ _ rfl cl na_run (@aX _ 0 _ _ (by rfl) (by first | exact Or.inl rfl | exact Or.inr (Or.inl rfl) | exact Or.inr (Or.inr rfl)) (by decide) (by decide)) (by rfl)) (@jI _ _) (@jJ _ _ _ _ (@Jd _ _ _ _ _ ae))) (by rfl))) (@aY _ _ _ _ _ _ (@cH _ _ _ _ _ _ (@ao _ _ _ _ _ (@aE _ _ _ _ _)))))))
       (@aY _ _ _ _ _ _ (@cH _ _ _ _ _ _ (@ao _ _ _ _ _ (@aE _ _ _ _ _))))))
noncomputable def dc:XS:=(aZ (ed (rf (bR (ji lx (cf 0 "waiting") (ar (vC .none)))) (jh (bR (oR 3 dm (ce (cf 0 "web") (ce (oR 2 bN (ce (cf 0 "web") (ce (cf 0 "run") jg))) (ce (ar (ab 1)) jg)))))))
    (bO (ar (vC (.str ("NoAsk":Str)))))
    cg)
    (aZ (gD 0 "waiting" (ar (ab 1)))
    (bO (ar (vC (.str ("asked":Str)))))))
noncomputable def bj:MX:=dZ 2 0 (([]++[])++([]++[])) (dc)
theorem jc:aw ["self","tie"] ["self","tie"] (ag dW):=⟨rfl,rfl,rfl,by decide+kernel,rfl,by decide+kernel,by decide+kernel⟩
theorem mE{P:OZ}{w:OW}{K:OU}{C:xM}{mg:Str→Option OR}{base:OY}{f:xM}{fd:Pj}(hF:rh K "take_ask" "Desk.take_ask" dW f fd)(T:cw mg){M6:xM}{M7:Pj}(Mt:ee K mg "may_ask" g_ M6 M7 ["web","stand","tie"])(MA:aF P w K mg base bS 4 M6 M7 ["web","stand","tie"] (el K 3 dm)){Mx:xM}{My:Pj}(Me:ee K mg "stand_of_run" cC Mx My ["web","run"])(Mf:aF P w K mg base bS 3 Mx My ["web","run"] (el K 2 bN))(cl:oT K C)(na_run:bF K C "run")(na_waiting:bF K C "waiting")(na_web:bF K C "web"):aF P w K mg base bS 5 f fd ["self","tie"] (kR K C 2 (bj)):=by
  have nd:=jc.nd
  exact hF.okY jc rfl rfl (fun cdv A outer s H E hr=>(@aH _ _ _ _ _ _ _ _ _ (@gw _ _ _ _ _ _ _ _ _ _ _ _ (@EQ _ _ _ _ _ (@Bu _ _ _ _ _ _ _ _ _ (@o_ _ _ _ _ _ _ _ _ _ _ (@sW _ _) (@bW _ _ _ _ 0 _ _ _ rfl cl na_waiting (@aX _ 0 _ _ (by rfl) (by first | exact Or.inl rfl | exact Or.inr (Or.inl rfl) | exact Or.inr (Or.inr rfl)) (by decide) (by decide)) (by rfl)) (@ao _ _ _ _ _ (@gu _ _ _ _)) (aG _)) (@yc _ _ _ _ _ _ (@pb _ _ _ _ _ _ (@pd _ _ _ _ _ (@G5 _ _ _ _ _ _ _ _ _ _ _ _ _ _ _ _ Mt MA (hr.mono (by decide)) (@k8 _ _ _ _ _ _ _ (@bW _ _ _ _ 0 _ _ _ rfl cl na_web (@aX _ 0 _ _ (by rfl) (by first | exact Or.inl rfl | exact Or.inr (Or.inl rfl) | exact Or.inr (Or.inr rfl)) (by decide) (by decide)) (by rfl)) (@k8 _ _ _ _ _ _ _ (@G5 _ _ _ _ _ _ _ _ _ _ _ _ _ _ _ _ Me Mf (hr.mono (by decide)) (@k8 _ _ _ _ _ _ _ (@bW _ _ _ _ 0 _ _ _ rfl cl na_web (@aX _ 0 _ _ (by rfl) (by first | exact Or.inl rfl | exact Or.inr (Or.inl rfl) | exact Or.inr (Or.inr rfl)) (by decide) (by decide)) (by rfl)) (@k8 _ _ _ _ _ _ _ (@bW _ _ _ _ 0 _ _ _ rfl cl na_run (@aX _ 0 _ _ (by rfl) (by first | exact Or.inl rfl | exact Or.inr (Or.inl rfl) | exact Or.inr (Or.inr rfl)) (by decide) (by decide)) (by rfl)) (@mK _ _ _) (by rfl)) (by rfl)) (by rfl) (by decide) (by rfl) (by rfl)) (@k8 _ _ _ _ _ _ _ (@ao _ _ _ _ _ (¬1)) (@mK _ _ _) (by rfl)) (by rfl)) (by rfl)) (by rfl) (by decide) (by rfl) (by rfl)) (by intro _;rfl)))))) (@aY _ _ _ _ _ _ (@cH _ _ _ _ _ _ (@ao _ _ _ _ _ (@aE _ _ _ _ _)))) (@dN _ _ _))
       (@aH _ _ _ _ _ _ _ _ _ (@iD _ _ _ _ _ _ 0 _ _ _ _ rfl cl na_waiting (@aX _ 0 _ _ (by rfl) (by first | exact Or.inl rfl | exact Or.inr (Or.inl rfl) | exact Or.inr (Or.inr rfl)) (by decide) (by decide)) (@ao _ _ _ _ _ (¬1)) (by rfl))
       (@aY _ _ _ _ _ _ (@cH _ _ _ _ _ _ (@ao _ _ _ _ _ (@aE _ _ _ _ _)))))))
def Jg:List Str:=["may","best","bound","kept"]
noncomputable def qs:List (Str × FM):=[("may",d9),("kept",j_)]
noncomputable def fK:XS:=(aZ (ed (dM (lJ (aA (uo (yL "str") (ab 1)))))
    (bO (ar (vC (.str ("NoWord":Str)))))
    cg)
    (aZ (ed (dM (aA (ay (tF false) (ab 1) (cM (aa (vC (.str ("yes":Str))) (aa (vC (.str ("no":Str))) ah))))))
    (bO (bu 2 aT (km 0 "take_answer" (bv (ar (ay (bi false) (ab 1) (vC (.str ("yes":Str))))) bY))))
    cg)
    (aZ (ed (dM (aA (ay (bi false) (ab 1) (vC (.str ("back":Str))))))
    (bO (bu 1 eL (km 0 "take_back" bY)))
    cg)
    (aZ (ed (dM (BY Jg (ab 1)))
    (yg 0 1 2 qs)
    cg)
    (aZ (gE 3 (oR 2 eK (ce (cf 0 "web") (ce (ar (ab 1)) jg))))
    (bO (xC (dM (aA (ay HI (ab 3) (vC .none)))) (ar (vC (.str ("NoWord":Str)))) (bu 2 bj (km 0 "take_ask" (bv (ar (ab 3)) bY))))))))))
noncomputable def aN:MX:=dZ 2 2 (([]++[])++(([]++[])++(([]++[])++(([2]++[])++([3]++[]))))) (fK)
theorem ou:aw ["self","line","question","tie"] ["self","line"] (ag jL):=⟨rfl,rfl,rfl,by decide+kernel,rfl,by decide+kernel,by decide+kernel⟩
theorem tY{P:OZ}{w:OW}{K:OU}{C:xM}{mg:Str→Option OR}{base:OY}{f:xM}{fd:Pj}(hF:rh K "say" "Desk.say" jL f fd)(T:cw mg){MU:xM}{MV:Pj}(Mn:ee K mg "tie_to_ask" eS MU MV ["web","line"])(Mv:aF P w K mg base bS 2 MU MV ["web","line"] (el K 2 eK)){f_Desk_take_answer:xM}{e_Desk_take_answer:Pj}(me_Desk_take_answer:kU K C "take_answer" f_Desk_take_answer)(B_Desk_take_answer:cS K e_Desk_take_answer ["self","truth"] [])(G_Desk_take_answer:aF P w K mg base bS 1 f_Desk_take_answer e_Desk_take_answer ["self","truth"] (kR K C 2 aT)){f_Desk_take_back:xM}{e_Desk_take_back:Pj}(me_Desk_take_back:kU K C "take_back" f_Desk_take_back)(B_Desk_take_back:cS K e_Desk_take_back ["self"] [])(G_Desk_take_back:aF P w K mg base bS 1 f_Desk_take_back e_Desk_take_back ["self"] (kR K C 1 eL)){ML:xM}{Ng:Pj}(Mr:ee K mg "may_line" iu ML Ng ["web","run"])(MO:aF P w K mg base bS 6 ML Ng ["web","run"] (el K 2 d9)){MF:xM}{M9:Pj}(Ml:ee K mg "kept_line" gh MF M9 ["web","run"])(MG:aF P w K mg base bS 3 MF M9 ["web","run"] (el K 2 j_)){f_Desk_take_ask:xM}{e_Desk_take_ask:Pj}(me_Desk_take_ask:kU K C "take_ask" f_Desk_take_ask)(B_Desk_take_ask:cS K e_Desk_take_ask ["self","tie"] [])(G_Desk_take_ask:aF P w K mg base bS 5 f_Desk_take_ask e_Desk_take_ask ["self","tie"] (kR K C 2 bj))(cl:oT K C)(na_run:bF K C "run")(na_web:bF K C "web"){qa:xM}{ms:List (Str × xM)}(TQ:HG K w qa ms)(hks:ms.map (·.1)=Jg)(mQ:mg "QUESTIONS"=some (.ref qa))(a_may:ms.lookup ("may":Str)=some ML)(a_kept:ms.lookup ("kept":Str)=some MF):aF P w K mg base bS 7 f fd ["self","line"] (kR K C 2 (aN)):=by
  have nd:=ou.nd
  exact hF.okY ou rfl rfl (fun cdv A outer s H E hr=>have hQ:∀(u:Str) (m:FM),qs.lookup u=some m→∃f,ms.lookup u=some f∧Ki _ 6 f m:=(fun u m hm=>by
      unfold qs at hm
      rw [PX] at hm
      by_cases c0:u="may"
      · subst c0;rw [show(("may":Str)=="may")=true from by decide] at hm;cases hm;exact⟨ML,a_may,_,_,MO.mono (by decide),Mr.b,Mr.F.kp⟩
      rw [show(u=="may")=false from beq_eq_false_iff_ne.mpr c0] at hm
      rw [PX] at hm
      by_cases c1:u="kept"
      · subst c1;rw [show(("kept":Str)=="kept")=true from by decide] at hm;cases hm;exact⟨MF,a_kept,_,_,MG.mono (by decide),Ml.b,Ml.F.kp⟩
      rw [show(u=="kept")=false from beq_eq_false_iff_ne.mpr c1] at hm
      cases hm)
    (@aH _ _ _ _ _ _ _ _ _ (@gw _ _ _ _ _ _ _ _ _ _ _ _ (@gc _ _ _ _ _ (@xc _ _ _ _ _ (@ik _ _ _ _ (@EL _ _ _ _ _ _ _ _ "str" rfl (by decide) rfl T.b_isinstance rfl T.b_str Ts (by decide) (by decide) (¬1) (by rfl) (by rfl)) (by intro _;rfl)))) (@aY _ _ _ _ _ _ (@cH _ _ _ _ _ _ (@ao _ _ _ _ _ (@aE _ _ _ _ _)))) (@dN _ _ _))
       (@aH _ _ _ _ _ _ _ _ _ (@gw _ _ _ _ _ _ _ _ _ _ _ _ (@gc _ _ _ _ _ (@aO _ _ _ _ _ _ _ _ _ (@wf _ _ _ rfl hr) (¬1) (@bC _ _ _ _ _ _ ((@aE _ _ _ _ _)∘((@aE _ _ _ _ _)∘ac))) (by with_unfolding_all rfl))) (@aY _ _ _ _ _ _ (@cH _ _ _ _ _ _ (@mJ _ _ _ _ _ _ _ _ _ 0 _ _ _ _ _ _ _ _ _ rfl (@aX _ 0 _ _ (by rfl) (by first | exact Or.inl rfl | exact Or.inr (Or.inl rfl) | exact Or.inr (Or.inr rfl)) (by decide) (by decide)) cl me_Desk_take_answer G_Desk_take_answer (hr.mono (by decide)) B_Desk_take_answer (@gf _ _ _ _ _ _ _ (@ao _ _ _ _ _ (@ol _ _ _ _ _ _ _ _ _ (@iA _ _ _ rfl hr) (¬1) (@aE _ _ _ _ _) (aG _))) (@eO _ _ _) (by rfl)) (by rfl) (by rfl) (by rfl)))) (@dN _ _ _))
       (@aH _ _ _ _ _ _ _ _ _ (@gw _ _ _ _ _ _ _ _ _ _ _ _ (@gc _ _ _ _ _ (@aO _ _ _ _ _ _ _ _ _ (@iA _ _ _ rfl hr) (¬1) (@aE _ _ _ _ _) (aG _))) (@aY _ _ _ _ _ _ (@cH _ _ _ _ _ _ (@Bf _ _ _ _ _ _ 0 _ _ _ _ _ _ _ _ _ rfl (@aX _ 0 _ _ (by rfl) (by first | exact Or.inl rfl | exact Or.inr (Or.inl rfl) | exact Or.inr (Or.inr rfl)) (by decide) (by decide)) cl me_Desk_take_back G_Desk_take_back (hr.mono (by decide)) B_Desk_take_back (by rfl)))) (@dN _ _ _))
       (@aH _ _ _ _ _ _ _ _ _ (@gw _ _ _ _ _ _ _ _ _ _ _ _ (@gc _ _ _ _ _ (@G_ _ _ _ _ _ _ _ _ _ _ rfl TQ hks (¬1) rfl mQ (by decide) (by with_unfolding_all rfl))) (@Bs _ _ _ _ _ _ _ _ 0 1 2 _ _ _ _ _ _ _ _ _ _ _ _ rfl TQ hr hQ rfl mQ (by decide) (@aX _ 1 _ _ (by rfl) (by first | exact Or.inl rfl | exact Or.inr (Or.inl rfl) | exact Or.inr (Or.inr rfl)) (by decide) (by decide)) nd rfl (Or.inl rfl) (by rfl) (by trivial) (@aX _ 2 _ _ (by rfl) (by first | exact Or.inl rfl | exact Or.inr (Or.inl rfl) | exact Or.inr (Or.inr rfl)) (by decide) (by decide)) (@k8 _ _ _ _ _ _ _ (@bW _ _ _ _ 0 _ _ _ rfl cl na_web (@aX _ 0 _ _ (by rfl) (by first | exact Or.inl rfl | exact Or.inr (Or.inl rfl) | exact Or.inr (Or.inr rfl)) (by decide) (by decide)) (by rfl)) (@k8 _ _ _ _ _ _ _ (@bW _ _ _ _ 0 _ _ _ rfl cl na_run (@aX _ 0 _ _ (by rfl) (by first | exact Or.inl rfl | exact Or.inr (Or.inl rfl) | exact Or.inr (Or.inr rfl)) (by decide) (by decide)) (by rfl)) (@mK _ _ _) (by rfl)) (by rfl)) (by rfl) (by rfl)) (@dN _ _ _))
       (@aH _ _ _ _ _ _ _ _ _ (@mM _ _ _ _ _ _ 3 _ _ nd rfl (Or.inl rfl) (@G5 _ _ _ _ _ _ _ _ _ _ _ _ _ _ _ _ Mn Mv (hr.mono (by decide)) (@k8 _ _ _ _ _ _ _ (@bW _ _ _ _ 0 _ _ _ rfl cl na_web (@aX _ 0 _ _ (by rfl) (by first | exact Or.inl rfl | exact Or.inr (Or.inl rfl) | exact Or.inr (Or.inr rfl)) (by decide) (by decide)) (by rfl)) (@k8 _ _ _ _ _ _ _ (@ao _ _ _ _ _ (¬1)) (@mK _ _ _) (by rfl)) (by rfl)) (by rfl) (by decide) (by rfl) (by rfl)) (by rfl) (by trivial))
       (@aY _ _ _ _ _ _ (@cH _ _ _ _ _ _ (@r6 _ _ _ _ _ _ _ _ _ _ (@gc _ _ _ _ _ (@aO _ _ _ _ _ _ _ _ _ (@HZ _ _) (¬3) (@gu _ _ _ _) (aG _))) (@ao _ _ _ _ _ (@aE _ _ _ _ _)) (@mJ _ _ _ _ _ _ _ _ _ 0 _ _ _ _ _ _ _ _ _ rfl (@aX _ 0 _ _ (by rfl) (by first | exact Or.inl rfl | exact Or.inr (Or.inl rfl) | exact Or.inr (Or.inr rfl)) (by decide) (by decide)) cl me_Desk_take_ask G_Desk_take_ask (hr.mono (by decide)) B_Desk_take_ask (@gf _ _ _ _ _ _ _ (@ao _ _ _ _ _ (¬3)) (@eO _ _ _) (by rfl)) (by rfl) (by rfl) (by rfl)))))))))))
noncomputable def xK:XS:=(aZ (gE 3 (bu 2 aN (km 0 "say" (bv (ar (ab 1)) bY))))
    (bO (ar (jf (uo (yL "str") (ab 3)) (ay (bi false) (ab 3) (ab 2))))))
noncomputable def fJ:MX:=dZ 3 1 ([3]++[]) (xK)
theorem yl:aw ["_law_desk","_law_line_here","_law_due_here","_law_found"] ["_law_desk","_law_line_here","_law_due_here"] (ag qy):=⟨rfl,rfl,rfl,by decide+kernel,rfl,by decide+kernel,by decide+kernel⟩
theorem AR{P:OZ}{w:OW}{K:OU}{C:xM}{mg:Str→Option OR}{base:OY}{f:xM}{fd:Pj}(h:ee K mg "_law_told" qy f fd ["_law_desk","_law_line_here","_law_due_here"])(T:cw mg){f_Desk_say:xM}{e_Desk_say:Pj}(me_Desk_say:kU K C "say" f_Desk_say)(B_Desk_say:cS K e_Desk_say ["self","line"] [])(G_Desk_say:aF P w K mg base bS 7 f_Desk_say e_Desk_say ["self","line"] (kR K C 2 aN))(cl:oT K C):aF P w K mg base bS 8 f fd ["_law_desk","_law_line_here","_law_due_here"] (kR K C 3 (fJ)):=by
  have nd:=yl.nd
  exact h.F.okY yl rfl rfl (fun cdv A outer s H E hr=>(@aH _ _ _ _ _ _ _ _ _ (@mM _ _ _ _ _ _ 3 _ _ nd rfl (Or.inl rfl) (@mJ _ _ _ _ _ _ _ _ _ 0 _ _ _ _ _ _ _ _ _ rfl (@aX _ 0 _ _ (by rfl) (by first | exact Or.inl rfl | exact Or.inr (Or.inl rfl) | exact Or.inr (Or.inr rfl)) (by decide) (by decide)) cl me_Desk_say G_Desk_say (hr.mono (by decide)) B_Desk_say (@gf _ _ _ _ _ _ _ (@ao _ _ _ _ _ (¬1)) (@eO _ _ _) (by rfl)) (by rfl) (by rfl) (by rfl)) (by rfl) (by trivial))
       (@aY _ _ _ _ _ _ (@cH _ _ _ _ _ _ (@ao _ _ _ _ _ (@Bk _ _ _ _ _ _ _ _ (@EL _ _ _ _ _ _ _ _ "str" rfl (by decide) rfl T.b_isinstance rfl T.b_str Ts (by decide) (by decide) (¬3) (by rfl) (by rfl)) (@Bn _ _ _ _ _ _ (@ol _ _ _ _ _ _ _ _ _ (@iA _ _ _ rfl hr) (¬3) (¬2) (aG _)))))))))
noncomputable def iV:XS:=(aZ (gD 0 "web" (ar (ab 1)))
    (aZ (gD 0 "run" (ar (cM ah)))
    (gD 0 "waiting" (ar (vC .none)))))
noncomputable def a9:MX:=dZ 2 0 ([]++([]++[])) (iV)
theorem jb:aw ["self","web"] ["self","web"] (ag dU):=⟨rfl,rfl,rfl,by decide+kernel,rfl,by decide+kernel,by decide+kernel⟩
theorem mD{P:OZ}{w:OW}{K:OU}{C:xM}{mg:Str→Option OR}{base:OY}{f:xM}{fd:Pj}(hF:rh K "__init__" "Desk.__init__" dU f fd)(T:cw mg)(cl:oT K C)(na_run:bF K C "run")(na_waiting:bF K C "waiting")(na_web:bF K C "web"):aF P w K mg base bS 1 f fd ["self","web"] (kR K C 2 (a9)):=by
  have nd:=jb.nd
  exact hF.okY jb rfl rfl (fun cdv A outer s H E hr=>(@aH _ _ _ _ _ _ _ _ _ (@iD _ _ _ _ _ _ 0 _ _ _ _ rfl cl na_web (@aX _ 0 _ _ (by rfl) (by first | exact Or.inl rfl | exact Or.inr (Or.inl rfl) | exact Or.inr (Or.inr rfl)) (by decide) (by decide)) (@ao _ _ _ _ _ (¬1)) (by rfl))
       (@aH _ _ _ _ _ _ _ _ _ (@iD _ _ _ _ _ _ 0 _ _ _ _ rfl cl na_run (@aX _ 0 _ _ (by rfl) (by first | exact Or.inl rfl | exact Or.inr (Or.inl rfl) | exact Or.inr (Or.inr rfl)) (by decide) (by decide)) (@ao _ _ _ _ _ (@bC _ _ _ _ _ _ ac)) (by rfl))
       (@aY _ _ _ _ _ _ (@iD _ _ _ _ _ _ 0 _ _ _ _ rfl cl na_waiting (@aX _ 0 _ _ (by rfl) (by first | exact Or.inl rfl | exact Or.inr (Or.inl rfl) | exact Or.inr (Or.inr rfl)) (by decide) (by decide)) (@ao _ _ _ _ _ (@gu _ _ _ _)) (by rfl))))))
noncomputable def h_:FI:=(j7 (ab 1))
noncomputable def cT:XS:=(aZ (ud (bu 2 aN (km 2 "say" (bv (ar (ay fV (vC (.str ("ask ":Str))) (az (g1 eF) (aa (ab 3) ah)))) bY))))
    (ud (bu 2 aN (km 2 "say" (bv (ar (ay dI (ek (aa (vC (.str ("no":Str))) (aa (vC (.str ("yes":Str))) ah))) (az (g1 pP) (aa (ab 4) ah)))) bY)))))
noncomputable def kZ:Cs:=(r_ (vG 2 a9 (ar (ab 0)))
    (r_ (iE ([3]++([4]++[])) h_ (cy (aL (aj 3) (aL (aj 4) bT))) cT)
    (EZ 2)))
noncomputable def b7:MN:=C5 2 3 kZ
theorem k9:aw ["_law_web_here","_law_run","_law_desk","_law_tie","_law_truth"] ["_law_web_here","_law_run"] (ag eR):=⟨rfl,rfl,rfl,by decide+kernel,rfl,by decide+kernel,by decide+kernel⟩
theorem qc{P:OZ}{w:OW}{K:OU}{C:xM}{mg:Str→Option OR}{base:OY}{f:xM}{fd:Pj}(h:ee K mg "_law_other_desk" eR f fd ["_law_web_here","_law_run"])(T:cw mg){f_Desk___init__:xM}{e_Desk___init__:Pj}(MK:Mk K C f_Desk___init__)(mC:mg "Desk"=some (.ref C))(B_Desk___init__:cS K e_Desk___init__ ["self","web"] [])(G_Desk___init__:aF P w K mg base bS 1 f_Desk___init__ e_Desk___init__ ["self","web"] (kR K C 2 a9)){f_Desk_say:xM}{e_Desk_say:Pj}(me_Desk_say:kU K C "say" f_Desk_say)(B_Desk_say:cS K e_Desk_say ["self","line"] [])(G_Desk_say:aF P w K mg base bS 7 f_Desk_say e_Desk_say ["self","line"] (kR K C 2 aN))(cl:oT K C):aF P w K mg base bS 8 f fd ["_law_web_here","_law_run"] (Jx K C 2 (b7)):=by
  have nd:=k9.nd
  exact h.F.okN k9 rfl rfl (fun cdv A outer s H E hr=>(@r8 _ _ _ _ _ _ _ _ _ (@vx _ _ _ _ _ _ _ 2 _ _ _ _ _ _ _ _ _ rfl MK G_Desk___init__ (hr.mono (by decide)) rfl mC B_Desk___init__ (@ao _ _ _ _ _ (¬0)) nd rfl (Or.inl rfl) (by rfl) (by decide) (by rfl) (by rfl) (by rfl) (by trivial))
       (@r8 _ _ _ _ _ _ _ _ _ (@o8 _ _ _ _ _ _ _ _ _ _ _ _ QH rfl (@fj _ _ _ _ _ rfl (¬1)) (@ij _ _ _ _ _ _ _ _ rfl rfl (@bc _ _ _ _ _ _ _ _ (@aI _ _ _ 3 _ nd rfl (Or.inl rfl) (by trivial)) (@bc _ _ _ _ _ _ _ _ (@aI _ _ _ 4 _ nd rfl (Or.inl rfl) (by trivial)) (@eN _ _) (by rfl)) (by rfl)) (bz (bz hZ)) (by rfl) (by rfl)) (@aH _ _ _ _ _ _ _ _ _ (@vw _ _ _ _ _ _ (@mJ _ _ _ _ _ _ _ _ _ 2 _ _ _ _ _ _ _ _ _ rfl (@aX _ 2 _ _ (by rfl) (by first | exact Or.inl rfl | exact Or.inr (Or.inl rfl) | exact Or.inr (Or.inr rfl)) (by decide) (by decide)) cl me_Desk_say G_Desk_say (hr.mono (by decide)) B_Desk_say (@gf _ _ _ _ _ _ _ (@ao _ _ _ _ _ (@nF _ _ _ _ _ _ _ (@aE _ _ _ _ _) (@aW _ _ _ _ _ _ _ _ _ (@b_str _ _) (by rfl) T.b_str ((¬3)∘ac) (by decide) (by decide) (by rfl) (by rfl)))) (@eO _ _ _) (by rfl)) (by rfl) (by rfl) (by rfl)) (by rfl))
       (@aY _ _ _ _ _ _ (@vw _ _ _ _ _ _ (@mJ _ _ _ _ _ _ _ _ _ 2 _ _ _ _ _ _ _ _ _ rfl (@aX _ 2 _ _ (by rfl) (by first | exact Or.inl rfl | exact Or.inr (Or.inl rfl) | exact Or.inr (Or.inr rfl)) (by decide) (by decide)) cl me_Desk_say G_Desk_say (hr.mono (by decide)) B_Desk_say (@gf _ _ _ _ _ _ _ (@ao _ _ _ _ _ (@b_ _ _ _ _ _ _ _ rfl (@cG _ _ _ _ _ ((@aE _ _ _ _ _)∘((@aE _ _ _ _ _)∘ac))) (@aW _ _ _ _ _ _ _ _ _ (@b_int _ _) (by rfl) T.b_int ((¬4)∘ac) (by decide) (by decide) (by rfl) (by rfl)) (fun _ _=>rfl))) (@eO _ _ _) (by rfl)) (by rfl) (by rfl) (by rfl)) (by rfl)))) (by intro _;rfl))
       (@Br _ _ _ _ _ 2 (@aX _ 2 _ _ (by rfl) (by first | exact Or.inl rfl | exact Or.inr (Or.inl rfl) | exact Or.inr (Or.inr rfl)) (by decide) (by decide))))))
noncomputable def Kz:FI:=(di (aa (az (g1 hX) (aa (ay dI (ab 3) (vC (.int 1))) ah)) ah))
noncomputable def Fi:XS:=(aZ (ed (dM (aA (ay (bi true) (ay bD (ab 6) (vC (.int 7))) (vC (.int 3)))))
    DS
    cg)
    (aZ (BK [9] 5 (gE 9 (kl 2 aN (j4 "say" (ny 2 b7 (bv (ar (ab 3)) (bv (ar (ay dI (ab 5) (vC (.int 0)))) bY))) (yI (ar (ay fV (vC (.str ("ask ":Str))) (az (g1 eF) (aa (ab 8) ah)))) Ie)))))
    (ed (dM (aA (ay (bi true) (ab 9) (ay dI (ek (aa (vC (.str ("NoAsk":Str))) (aa (vC (.str ("asked":Str))) ah))) (az (g1 pP) (aa (ay (tF false) (az (g1 eF) (aa (ab 8) ah)) (ay fZ (ab 7) (vC (.str (" ":Str))))) ah))))))
    (bO (ar (vC (.bool false))))
    cg)))
noncomputable def KA:FI:=(di (aa (vC (.int 20)) ah))
noncomputable def HU:XS:=(aZ (gE 7 (bu 3 cO (bv (ar (ab 3)) (nJ 5 (bv (ar (vC (.str ("may":Str)))) bY)))))
    (aZ (ed (rf (jh (bR (bu 3 fJ (nJ 4 (bv (ar (vC (.str ("may":Str)))) (bv (ar (ab 7)) bY)))))) (jh (bR (bu 3 fJ (nJ 4 (bv (ar (vC (.str ("may":Str)))) (bv (ar (ab 7)) bY)))))))
    (bO (ar (vC (.bool false))))
    cg)
    (aZ (iE [8] Kz (aj 8) Fi)
    (aZ (io [10] (bx 10 (dX 3 ly (aa (ab 1) (aa (ab 3) (aa (ek (aa (vC (.str ("ask":Str))) (aa (vC (.str ("yes":Str))) (aa (vC (.str ("ask":Str))) (aa (vC (.str ("no":Str))) (aa (vC (.str ("no":Str))) ah)))))) ah))))))
    (ed (jh (bR (bu 3 fJ (nJ 4 (bv (ar (ab 10)) (bv (bu 3 cO (bv (ar (ab 3)) (nJ 5 (bv (ar (ab 10)) bY)))) bY))))))
    (bO (ar (vC (.bool false))))
    cg)))))
noncomputable def KB:FI:=(di (aa (vC (.int 2)) ah))
noncomputable def HV:XS:=(aZ (io [3] (bx 3 (dX 3 rT (aa (ab 1) (aa (vC (.int 12)) (aa (vC (.int 16)) ah))))))
    (aZ (vG 4 a9 (ar (ab 3)))
    (aZ (BJ 5)
    (iE [6] KA (aj 6) HU))))
noncomputable def sV:XS:=(aZ (io [1] (bx 1 (dX 1 kN (aa (ab 0) ah))))
    (aZ (iE [2] KB (aj 2) HV)
    (bO (ar (vC (.bool true))))))
noncomputable def nv:MX:=dZ 1 10 ([1]++(([2]++([3]++([4]++([5]++([6]++([7]++(([]++[])++(([8]++(([]++[])++([9]++([]++[]))))++([10]++([]++[]))))))))))++[])) (sV)
theorem BQ:aw ["_law_script","_law_drawn","_law_turn","_law_web_here","_law_desk","_law_state","_law_again","_law_due_here","_law_tie","_law_found","_law_line_here"] ["_law_script"] (ag qB):=⟨rfl,rfl,rfl,by decide+kernel,rfl,by decide+kernel,by decide+kernel⟩
theorem Dj{P:OZ}{w:OW}{K:OU}{C:xM}{mg:Str→Option OR}{base:OY}{f:xM}{fd:Pj}(h:ee K mg "law" qB f fd ["_law_script"])(T:cw mg){NK:xM}{NL:Pj}(M_:ee K mg "_law_draws" mN NK NL ["_law_script"])(Nj:aF P w K mg base bS 2 NK NL ["_law_script"] (el K 1 kN)){On:xM}{Oo:Pj}(NM:ee K mg "_law_web" vF On Oo ["_law_drawn","_law_most","_law_ties_here"])(NT:aF P w K mg base bS 5 On Oo ["_law_drawn","_law_most","_law_ties_here"] (el K 3 rT)){f_Desk___init__:xM}{e_Desk___init__:Pj}(MK:Mk K C f_Desk___init__)(mC:mg "Desk"=some (.ref C))(B_Desk___init__:cS K e_Desk___init__ ["self","web"] [])(G_Desk___init__:aF P w K mg base bS 1 f_Desk___init__ e_Desk___init__ ["self","web"] (kR K C 2 a9)){Oq:xM}{Os:Pj}(NN:ee K mg "_law_due" vB Oq Os ["_law_web_here","_law_state","_law_line_here"])(NU:aF P w K mg base bS 4 Oq Os ["_law_web_here","_law_state","_law_line_here"] (kR K C 3 cO)){N6:xM}{N7:Pj}(Np:ee K mg "_law_line" qu N6 N7 ["_law_drawn","_law_web_here","_law_menu"])(Ny:aF P w K mg base bS 2 N6 N7 ["_law_drawn","_law_web_here","_law_menu"] (el K 3 ly)){f_Desk_say:xM}{e_Desk_say:Pj}(me_Desk_say:kU K C "say" f_Desk_say)(B_Desk_say:cS K e_Desk_say ["self","line"] [])(G_Desk_say:aF P w K mg base bS 7 f_Desk_say e_Desk_say ["self","line"] (kR K C 2 aN)){N8:xM}{N9:Pj}(Nh:ee K mg "_law_told" qy N8 N9 ["_law_desk","_law_line_here","_law_due_here"])(Nq:aF P w K mg base bS 8 N8 N9 ["_law_desk","_law_line_here","_law_due_here"] (kR K C 3 fJ)){MW:xM}{MY:Pj}(Mw:ee K mg "_law_other_desk" eR MW MY ["_law_web_here","_law_run"])(MI:aF P w K mg base bS 8 MW MY ["_law_web_here","_law_run"] (Jx K C 2 b7))(cl:oT K C):aF P w K mg base bS 9 f fd ["_law_script"] (kR K C 1 (nv)):=by
  have nd:=BQ.nd
  exact h.F.okY BQ rfl rfl (fun cdv A outer s H E hr=>(@aH _ _ _ _ _ _ _ _ _ (@ql _ _ _ _ _ _ (@aQ _ _ _ _ _ 1 _ _ nd rfl (Or.inl rfl) (@bI _ _ _ _ _ _ _ _ _ _ _ _ _ _ _ M_ Nj (hr.mono (by decide)) ((¬0)∘ac) (by rfl) (by decide) (by rfl) (by rfl)) (by rfl) (by trivial)))
       (@aH _ _ _ _ _ _ _ _ _ (@o8 _ _ _ _ _ _ _ _ _ _ _ _ QH rfl (@dr _ _ _ _ _ _ _ rfl T.b_range (ae∘ac) (by rfl)) (@aI _ _ _ 2 _ nd rfl (Or.inl rfl) (by trivial)) (@aH _ _ _ _ _ _ _ _ _ (@ql _ _ _ _ _ _ (@aQ _ _ _ _ _ 3 _ _ nd rfl (Or.inl rfl) (@bI _ _ _ _ _ _ _ _ _ _ _ _ _ _ _ NM NT (hr.mono (by decide)) ((¬1)∘(ae∘(ae∘ac))) (by rfl) (by decide) (by rfl) (by rfl)) (by rfl) (by trivial)))
       (@aH _ _ _ _ _ _ _ _ _ (@vx _ _ _ _ _ _ _ 4 _ _ _ _ _ _ _ _ _ rfl MK G_Desk___init__ (hr.mono (by decide)) rfl mC B_Desk___init__ (@ao _ _ _ _ _ (¬3)) nd rfl (Or.inl rfl) (by rfl) (by decide) (by rfl) (by rfl) (by rfl) (by trivial))
       (@aH _ _ _ _ _ _ _ _ _ (@y_ _ _ _ _ 5 _ _ _ _ _ _ nd rfl (Or.inl rfl) (by rfl) (by trivial))
       (@aY _ _ _ _ _ _ (@o8 _ _ _ _ _ _ _ _ _ _ _ _ QH rfl (@dr _ _ _ _ _ _ _ rfl T.b_range (ae∘ac) (by rfl)) (@aI _ _ _ 6 _ nd rfl (Or.inl rfl) (by trivial)) (@aH _ _ _ _ _ _ _ _ _ (@mM _ _ _ _ _ _ 7 _ _ nd rfl (Or.inl rfl) (@mI _ _ _ _ _ _ _ _ _ _ _ _ _ _ _ _ NN NU (hr.mono (by decide)) (@gf _ _ _ _ _ _ _ (@ao _ _ _ _ _ (¬3)) (@vz _ _ _ _ _ _ 5 (@aX _ 5 _ _ (by rfl) (by first | exact Or.inl rfl | exact Or.inr (Or.inl rfl) | exact Or.inr (Or.inr rfl)) (by decide) (by decide)) (@gf _ _ _ _ _ _ _ (@ao _ _ _ _ _ (@aE _ _ _ _ _)) (@eO _ _ _) (by rfl)) (by rfl)) (by rfl)) (by rfl) (by decide) (by rfl) (by rfl)) (by rfl) (by trivial))
       (@aH _ _ _ _ _ _ _ _ _ (@gw _ _ _ _ _ _ _ _ _ _ _ _ (@EQ _ _ _ _ _ (@Bu _ _ _ _ _ _ _ _ _ (@pb _ _ _ _ _ _ (@pd _ _ _ _ _ (@mI _ _ _ _ _ _ _ _ _ _ _ _ _ _ _ _ Nh Nq (hr.mono (by decide)) (@vz _ _ _ _ _ _ 4 (@aX _ 4 _ _ (by rfl) (by first | exact Or.inl rfl | exact Or.inr (Or.inl rfl) | exact Or.inr (Or.inr rfl)) (by decide) (by decide)) (@gf _ _ _ _ _ _ _ (@ao _ _ _ _ _ (@aE _ _ _ _ _)) (@gf _ _ _ _ _ _ _ (@ao _ _ _ _ _ (¬7)) (@eO _ _ _) (by rfl)) (by rfl)) (by rfl)) (by rfl) (by decide) (by rfl) (by rfl)) (by intro _;rfl))) (@yc _ _ _ _ _ _ (@pb _ _ _ _ _ _ (@pd _ _ _ _ _ (@mI _ _ _ _ _ _ _ _ _ _ _ _ _ _ _ _ Nh Nq (hr.mono (by decide)) (@vz _ _ _ _ _ _ 4 (@aX _ 4 _ _ (by rfl) (by first | exact Or.inl rfl | exact Or.inr (Or.inl rfl) | exact Or.inr (Or.inr rfl)) (by decide) (by decide)) (@gf _ _ _ _ _ _ _ (@ao _ _ _ _ _ (@aE _ _ _ _ _)) (@gf _ _ _ _ _ _ _ (@ao _ _ _ _ _ (¬7)) (@eO _ _ _) (by rfl)) (by rfl)) (by rfl)) (by rfl) (by decide) (by rfl) (by rfl)) (by intro _;rfl)))))) (@aY _ _ _ _ _ _ (@cH _ _ _ _ _ _ (@ao _ _ _ _ _ (@om _ _ _ _ _)))) (@dN _ _ _))
       (@aH _ _ _ _ _ _ _ _ _ (@o8 _ _ _ _ _ _ _ _ _ _ _ _ QH rfl (@dr _ _ _ _ _ _ _ rfl T.b_range ((@aW _ _ _ _ _ _ _ _ _ (@b_len _ _ rfl) (by rfl) T.b_len ((@b_ _ _ _ _ _ _ _ rfl (¬3) ae (fun _ _=>rfl))∘ac) (by decide) (by decide) (by rfl) (by rfl))∘ac) (by rfl)) (@aI _ _ _ 8 _ nd rfl (Or.inl rfl) (by trivial)) (@aH _ _ _ _ _ _ _ _ _ (@gw _ _ _ _ _ _ _ _ _ _ _ _ (@gc _ _ _ _ _ (@aO _ _ _ _ _ _ _ _ _ (@wk _ _ _ rfl hr) (@bB _ _ _ _ _ _ _ (¬6) ae) ae (aG _))) (@aY _ _ _ _ _ _ (@Bp _ _ _ _)) (@dN _ _ _))
       (@aH _ _ _ _ _ _ _ _ _ (@Bq _ _ _ 5 _ _ _ (by decide) (@mM _ _ _ _ _ _ 9 _ _ nd rfl (Or.inl rfl) (@Bg _ _ _ _ _ _ _ _ _ _ _ _ _ _ _ _ _ _ rfl (@DO _ _ _ _ _ _ _ _ _ _ _ _ _ _ _ _ Mw MI (hr.mono (by decide)) (@gf _ _ _ _ _ _ _ (@ao _ _ _ _ _ (¬3)) (@gf _ _ _ _ _ _ _ (@ao _ _ _ _ _ (@b_ _ _ _ _ _ _ _ rfl (¬5) ae (fun _ _=>rfl))) (@eO _ _ _) (by rfl)) (by rfl)) (by rfl) (by decide) (by rfl) (by rfl)) cl me_Desk_say G_Desk_say (hr.mono (by decide)) B_Desk_say (@Ii _ _ _ _ _ _ _ (@ao _ _ _ _ _ (@nF _ _ _ _ _ _ _ (@aE _ _ _ _ _) (@aW _ _ _ _ _ _ _ _ _ (@b_str _ _) (by rfl) T.b_str ((¬8)∘ac) (by decide) (by decide) (by rfl) (by rfl)))) (@CM _ _ _) (by rfl)) (by rfl) (by rfl) (by rfl)) (by rfl) (by trivial)))
       (@aY _ _ _ _ _ _ (@gw _ _ _ _ _ _ _ _ _ _ _ _ (@gc _ _ _ _ _ (@aO _ _ _ _ _ _ _ _ _ (@wk _ _ _ rfl hr) (¬9) (@b_ _ _ _ _ _ _ _ rfl (@cG _ _ _ _ _ ((@aE _ _ _ _ _)∘((@aE _ _ _ _ _)∘ac))) (@aW _ _ _ _ _ _ _ _ _ (@b_int _ _) (by rfl) T.b_int ((@ol _ _ _ _ _ _ _ _ _ (@wf _ _ _ rfl hr) (@aW _ _ _ _ _ _ _ _ _ (@b_str _ _) (by rfl) T.b_str ((¬8)∘ac) (by decide) (by decide) (by rfl) (by rfl)) (@x_ _ _ _ _ _ _ _ _ (¬7) (@aE _ _ _ _ _) (by rfl) (by rfl) (by rfl) (by rfl) (by rfl)) (by with_unfolding_all rfl))∘ac) (by decide) (by decide) (by rfl) (by rfl)) (fun _ _=>rfl)) (aG _))) (@aY _ _ _ _ _ _ (@cH _ _ _ _ _ _ (@ao _ _ _ _ _ (@om _ _ _ _ _)))) (@dN _ _ _))))) (by intro _;rfl))
       (@aH _ _ _ _ _ _ _ _ _ (@ql _ _ _ _ _ _ (@aQ _ _ _ _ _ 10 _ _ nd rfl (Or.inl rfl) (@bI _ _ _ _ _ _ _ _ _ _ _ _ _ _ _ Np Ny (hr.mono (by decide)) ((¬1)∘((¬3)∘((@cG _ _ _ _ _ ((@aE _ _ _ _ _)∘((@aE _ _ _ _ _)∘((@aE _ _ _ _ _)∘((@aE _ _ _ _ _)∘((@aE _ _ _ _ _)∘ac))))))∘ac))) (by rfl) (by decide) (by rfl) (by rfl)) (by rfl) (by trivial)))
       (@aY _ _ _ _ _ _ (@gw _ _ _ _ _ _ _ _ _ _ _ _ (@pb _ _ _ _ _ _ (@pd _ _ _ _ _ (@mI _ _ _ _ _ _ _ _ _ _ _ _ _ _ _ _ Nh Nq (hr.mono (by decide)) (@vz _ _ _ _ _ _ 4 (@aX _ 4 _ _ (by rfl) (by first | exact Or.inl rfl | exact Or.inr (Or.inl rfl) | exact Or.inr (Or.inr rfl)) (by decide) (by decide)) (@gf _ _ _ _ _ _ _ (@ao _ _ _ _ _ (¬10)) (@gf _ _ _ _ _ _ _ (@mI _ _ _ _ _ _ _ _ _ _ _ _ _ _ _ _ NN NU (hr.mono (by decide)) (@gf _ _ _ _ _ _ _ (@ao _ _ _ _ _ (¬3)) (@vz _ _ _ _ _ _ 5 (@aX _ 5 _ _ (by rfl) (by first | exact Or.inl rfl | exact Or.inr (Or.inl rfl) | exact Or.inr (Or.inr rfl)) (by decide) (by decide)) (@gf _ _ _ _ _ _ _ (@ao _ _ _ _ _ (¬10)) (@eO _ _ _) (by rfl)) (by rfl)) (by rfl)) (by rfl) (by decide) (by rfl) (by rfl)) (@eO _ _ _) (by rfl)) (by rfl)) (by rfl)) (by rfl) (by decide) (by rfl) (by rfl)) (by intro _;rfl))) (@aY _ _ _ _ _ _ (@cH _ _ _ _ _ _ (@ao _ _ _ _ _ (@om _ _ _ _ _)))) (@dN _ _ _))))))) (by intro _;rfl)))))) (by intro _;rfl))
       (@aY _ _ _ _ _ _ (@cH _ _ _ _ _ _ (@ao _ _ _ _ _ (@om _ _ _ _ _)))))))
noncomputable def u_:FM:=Aw nv
local macro_rules | `(tactic| simp? [$ts,*]) => `(tactic| simp [$ts,*, iO, jQ, aR, i8, br, cQ, bx, eQ, kY, oP, qj, aA, ay, uo, ab, vC, ek, ah, aa, cM, az, dX, lI, ul, lJ, xB, jf, um, mY, vV, gC, gb, ci, bH, mx, e_, gz, hR, cU, cK, pM, sE, cy, aL, aj, bT, bZ, aJ, bh, p6, dC, ez, cE, fC, gP, gN, gL, gK, eD, eA, eE, dg, eu, ma, gB, jx, md, jA, gO, jy, jz, eI, eH, dh, eJ, mf, jm, er, iI, iJ, lU, df, de, dH, gM, Pi, -Qc, -Pw, -Qz, -QF, -Pn, -Qe, -getElem?_pos, -Qo, l8, l7, lZ, lY, l5, l6, l4, l9])
theorem Ce{n k:Int}(h:0 < k):0≤n % k:=Sl _ (Int.ne_of_gt h)
theorem Cf{n k:Int}(h:0 < k):n % k < k:=Sm _ h
def nx:List Int→Int
  | []=>0
  | d::_=>d
def j0(ds:List Int):Prop:=∀d∈ds,0≤d∧d < 2147483648
theorem AL{ds:List Int}(h:j0 ds):0≤nx ds∧nx ds < 2147483648:=by
  cases ds with
  | nil=>exact⟨Int.le_refl 0,by show(0:Int) < 2147483648;decide⟩
  | cons d r=>exact h d (by simp)
theorem JP{ds:List Int}(h:j0 ds):j0 ds.tail:=fun d hd=>h d (List.mem_of_mem_tail hd)
theorem B2(ds:List Int):bQ [.l (ds.map .int)]=some (.d (.int (nx ds)),[.l (ds.tail.map .int)]):=by
  have hq:∀e:En,e[0]?=some (some (.l (ds.map .int)))→bi false e (.s 0) (.l [])=some (.d (.bool (ds.map PyData.int).isEmpty)):=fun e he=>uM he (kg ds).1
  cases ds with
  | nil=>simp? [bQ,we,hq,nx]
  | cons d r=>simp? [bQ,we,hq,nx]
theorem nI{ds:List Int}(hd:j0 ds):∃(n:Int) (ds':List Int),bQ [.l (ds.map .int)]=some (.d (.int n),[.l (ds'.map .int)])∧0≤n∧n < 2147483648∧j0 ds':=⟨nx ds,ds.tail,B2 ds,(AL hd).1,(AL hd).2,JP hd⟩
theorem yt(cell k:Int)(h0:0≤k)(h1:k≤1000):∃r,kO [.d (.int cell),.d (.int k)]=some (.d (.int r),[.d (.int cell),.d (.int k)])∧0≤r∧r < 2147483648:=by
  have a1:nu (cell % 2147483647) 48271=true:=tT (by decide) (by decide)
  have a2:nu 7919 k=true:=AC (by decide) (by decide)
  have a3:nu (7919*k) k=true:=tT (by lia) (by lia)
  have a4:nu ((cell % 2147483647*48271+7919*k*k+104729) % 2147483647) ((cell % 2147483647*48271+7919*k*k+104729) % 2147483647)=true:=tT (by lia) (by lia)
  refine⟨_,by simp? [kO,xH,ba,pR,a1,a2,a3,a4];rfl,?_,?_⟩
  · lia
  · lia
theorem tw{ds:List Int}(h:j0 ds){r:Int}(h0:0≤r)(h1:r < 2147483648):j0 (ds++[r]):=fun d hd=>by
  rcases ON hd with hd | hd
  · exact h d hd
  · simp at hd;subst hd;exact⟨h0,h1⟩
abbrev dE(ns ds:List Int)(v2 v3 v4:Option Sv):En:=[some (.d (.list (ns.map .int))),some (.l (ds.map .int)),v2,v3,v4]
inductive DI (ns:List Int) (i:Nat):En→Prop
  | mk {ds v2 v3 v4} (hd:j0 ds) (hl:ds.length≤1000*i):DI ns i (dE ns ds v2 v3 v4)
inductive DJ (ns:List Int) (k cell:Int) (n i:Nat):En→Prop
  | mk {ds v4} (hd:j0 ds) (hl:ds.length=n+i):DJ ns k cell n i (dE ns ds (some (.d (.int k))) (some (.d (.int cell))) v4)
inductive DW (ns:List Int) (k:Int) (v4:Option Sv) (n:Nat):En→Prop
  | mk {cell ds} (hc:0≤cell) (hd:j0 ds) (hl:ds.length≤max n 900):DW ns k v4 n (dE ns ds (some (.d (.int k))) (some (.d (.int cell))) v4)
theorem D7(ns:List Int)(hn:ns.length≤63):∃ds,kN [.d (.list (ns.map .int))]=some (.l (ds.map .int),[.d (.list (ns.map .int))])∧j0 ds:=by
  have inner:∀(cell k:Int) (ds:List Int) (v4:Option Sv),0≤k→k≤63→j0 ds→ds.length≤63000→∃ds' v4',(∀W,iM W kz (aj 4) iR (dE ns ds (some (.d (.int k))) (some (.d (.int cell))) v4)=some (.nx (dE ns ds' (some (.d (.int k))) (some (.d (.int cell))) v4')))∧j0 ds'∧ds'.length=ds.length+12:=by
    intro cell k ds v4 k0 k1 hd hl
    obtain⟨e',h1,h2⟩:=j3 (own:=[]) (g:=aj 4) (f:=iR) (DJ ns k cell ds.length) (be 0 12) 0 (dE ns ds (some (.d (.int k))) (some (.d (.int cell))) v4) (fun i x e hx hI=>by
      obtain⟨rfl,hi⟩:=cc hx
      obtain⟨hd',hl'⟩:=hI
      rename_i ds' v4'
      obtain⟨r1,c1,_,_⟩:=yt cell (3*(0+(i:Int))+1) (by lia) (by lia)
      obtain⟨r2,c2,c3,c4⟩:=yt r1 (0+(i:Int)+k+2) (by lia) (by lia)
      have a1:nu 3 (0+(i:Int))=true:=AC (by decide) (by decide)
      refine⟨_,dE ns (ds'++[r2]) (some (.d (.int k))) (some (.d (.int cell))) (some (.d (.int (0+(i:Int))))),rfl,?_,eg,.mk (tw hd' c3 c4) (by simp;lia)⟩
      have hlen:ds'.length < 1000000:=by lia
      simp only [Int.zero_add] at a1 c1 c2
      simp? [dE,iR,c1,c2,pR,a1,hlen]) (.mk hd rfl)
    obtain⟨hd',hl'⟩:=h2
    rename_i ds' v4'
    rw [fm] at hl'
    refine⟨ds',v4',fun W=>?_,hd',by lia⟩
    rw [kP (show kz _=some (be 0 12,[],_) from cF (n:=12) rfl (by decide) (by decide))]
    exact h1
  have wh:∀(cell k:Int) (ds:List Int) (v4:Option Sv),0≤cell→j0 ds→ds.length≤63100→∃cell' ds',qA (2 ^ 4200) gU kn (dE ns ds (some (.d (.int k))) (some (.d (.int cell))) v4)=some (.nx (dE ns ds' (some (.d (.int k))) (some (.d (.int cell'))) v4))∧0≤cell'∧j0 ds'∧ds'.length≤max ds.length 900:=by
    intro cell k ds v4 hc hd hl
    have tst:∀(cell:Int) (ds:List Int),gU (dE ns ds (some (.d (.int k))) (some (.d (.int cell))) v4)=some (decide (1000000000000000000≤cell)&&decide ((ds.length:Int) < 900),dE ns ds (some (.d (.int k))) (some (.d (.int cell))) v4):=by
      intro cell ds
      by_cases h:(1000000000000000000:Int)≤cell
      · simp? [dE,gU,me,mG,h]
      · simp? [dE,gU,me,mG,h]
    obtain⟨e0,e',h1,hI,h3⟩:=qP (ft:=gU) (f:=kn) (DW ns k v4 ds.length)
      (fun e=>1000000 - EE 1 e) (fun e hI=>by
        obtain⟨hc',hd',hl'⟩:=hI
        rename_i cell' ds'
        rw [tst]
        by_cases c1:(1000000000000000000:Int)≤cell'
        · by_cases c2:(ds'.length:Int) < 900
          · refine .inr ⟨_,dE ns (ds'++[cell' % 2147483629]) (some (.d (.int k))) (some (.d (.int (cell' / 2147483629)))) v4,by rw [decide_eq_true c1,decide_eq_true c2];rfl,?_,.mk (by lia) (tw hd' (by lia) (by lia)) (by simp;lia),?_⟩
            · have hlen:ds'.length < 1000000:=by lia
              have b8:Bt 8000 2147483629:=m4 (by decide) (by decide)
              simp? [dE,kn,ba,gW,b8,hlen]
            · simp [EE,dE];lia
          · exact .inl ⟨_,by rw [decide_eq_true c1,decide_eq_false c2];rfl,trivial⟩
        · exact .inl ⟨_,by rw [decide_eq_false c1];rfl,trivial⟩) (2 ^ 4200) _ (.mk hc hd (by lia)) (xV (m:=20) (Th (Nat.sub_le _ _) (by decide)) (by decide))
    obtain⟨hc',hd',hl'⟩:=hI
    rename_i cell' ds'
    rw [tst] at h3
    have h4:=(Prod.mk.inj (Qq h3)).2
    subst h4
    exact⟨cell',ds',h1,hc',hd',hl'⟩
  have turn:∀(i:Nat) (ds:List Int) (v3 v4:Option Sv) (hi:i < ns.length),j0 ds→ds.length≤1000*i→∃ds2 v3' v4',gS (dE ns ds (some (.d (.int (i:Int)))) v3 v4)=some (.nx (dE ns ds2 (some (.d (.int (i:Int)))) v3' v4'))∧j0 ds2∧ds2.length≤1000*(i+1):=by
    intro i ds v3 v4 hi hd hl
    have hcell:atI (ns.map PyData.int) (i:Int)=some (.int ns[i]):=by
      rw [jn (by lia) (by rw [Px];lia)]
      simp [hi]
    have c0:(0:Int)≤(ns[i].natAbs:Int):=by lia
    have st:bx 3 (az (g1 yH) (aa (ay dI (ab 0) (ab 2)) ah)) (dE ns ds (some (.d (.int (i:Int)))) v3 v4)=some (.nx (dE ns ds (some (.d (.int (i:Int)))) (some (.d (.int (ns[i].natAbs:Int)))) v4)):=by
      simp? [dE,hcell]
    generalize (ns[i].natAbs:Int)=cell at c0 st
    have mid:∃ds1 v4',i8 (aA (ay EA (ab 3) (ay wz (vC (.int 10)) (vC (.int 18))))) (iM ([4]++[]) kz (aj 4) iR) cQ (dE ns ds (some (.d (.int (i:Int)))) (some (.d (.int cell))) v4)=some (.nx (dE ns ds1 (some (.d (.int (i:Int)))) (some (.d (.int cell))) v4'))∧j0 ds1∧ds1.length≤ds.length+12:=by
      by_cases cb:cell < 1000000000000000000
      · obtain⟨ds1,v4',f1,f2,f3⟩:=inner cell (i:Int) ds v4 (by lia) (by lia) hd (by lia)
        refine⟨ds1,v4',?_,f2,by lia⟩
        rw [Ju (e1:=dE ns ds (some (.d (.int (i:Int)))) (some (.d (.int cell))) v4) (by simp? [dE,me,mG,cb])]
        exact f1 _
      · refine⟨ds,v4,?_,hd,by lia⟩
        rw [Jt (e1:=dE ns ds (some (.d (.int (i:Int)))) (some (.d (.int cell))) v4) (by simp? [dE,me,mG,cb])]
        rfl
    obtain⟨ds1,v4',m1,m2,m3⟩:=mid
    obtain⟨cell2,ds2,w1,w2,w3,w4⟩:=wh cell (i:Int) ds1 v4' c0 m2 (by lia)
    by_cases c2:(2147483629:Int)≤cell2
    · refine⟨ds2++[cell2 % 2147483629],some (.d (.int cell2)),v4',?_,tw w3 (by lia) (by lia),by simp;lia⟩
      have hlen:ds2.length < 1000000:=by lia
      unfold gS
      rw [kQ st,kQ m1,kQ w1]
      simp? [dE,c2,ba,hlen]
    · refine⟨ds2,some (.d (.int cell2)),v4',?_,w3,by lia⟩
      unfold gS
      rw [kQ st,kQ m1,kQ w1]
      simp? [dE,c2]
  obtain⟨e',h1,hI⟩:=j3 (own:=[]) (g:=aj 2) (f:=gS) (DI ns) (be 0 (min (ns.length:Int) 63).toNat) 0 (dE ns [] none none none) (fun i x e hx hI=>by
    obtain⟨rfl,hi⟩:=cc hx
    obtain⟨hd,hl⟩:=hI
    rename_i ds v2 v3 v4
    rw [QY] at hl ⊢
    obtain⟨ds2,v3',v4',t1,t2,t3⟩:=turn i ds v3 v4 (by lia) hd hl
    exact⟨dE ns ds (some (.d (.int (i:Int)))) v3 v4,_,by simp [aj,dE],t1,eg,.mk t2 t3⟩) (.mk (fun d hd=>by cases hd) (by simp))
  obtain⟨hd,hl⟩:=hI
  rename_i ds v2 v3 v4
  refine⟨ds,?_,hd⟩
  have hf:∀W,iM W m_ (aj 2) gS (dE ns [] none none none)=some (.nx (dE ns ds v2 v3 v4)):=fun W=>by
    rw [kP (show m_ _=some (be 0 (min (ns.length:Int) 63).toNat,[],dE ns [] none none none) from cF (n:=min (ns.length:Int) 63) (by simp? [dE]) (by lia) (by lia))]
    exact h1
  unfold dE at hf
  simp only [Qc] at hf
  simp? [kN,xG,hf]
theorem JM(a b:Int)(hb:Bt 4000 b):uZ [.d (.int a),.d (.int b)]=some (.d (.int (Pq a b)),[.d (.int a),.d (.int b)]):=by
  have tst:∀x y:Int,lR [some (.d (.int x)),some (.d (.int y))]=some (!(y==0),[some (.d (.int x)),some (.d (.int y))]):=fun x y=>by simp? [lR]
  obtain⟨e0,e',h1,⟨x,y,he,hg,hy⟩,h3⟩:=qP (ft:=lR) (f:=oW) (fun e=>∃x y,e=[some (.d (.int x)),some (.d (.int y))]∧Pq x y=Pq a b∧Bt 4000 y) (AE 1) (fun e ⟨x,y,he,hg,hy⟩=>by
    subst he
    rw [tst]
    by_cases c:y=0
    · subst c;exact .inl ⟨_,rfl,trivial⟩
    · refine .inr ⟨_,[some (.d (.int y)),some (.d (.int (x.fmod y)))],by rw [beq_false_of_ne c];rfl,by simp? [oW,FC c],⟨y,x.fmod y,rfl,by rw [Ae,hg],?_⟩,?_⟩
      · have:=nY x c
        exact Bt.of_le hy (by lia)
      · have:=nY x c
        simpa [AE] using this) (2 ^ 4200) _ ⟨a,b,rfl,rfl,hb⟩ (xV (m:=4000) (by simpa [AE,Bt] using hb) (by decide))
  subst he
  rw [tst] at h3
  have h4:=Prod.mk.inj (Qq h3)
  have hy0:y=0:=by simpa using h4.1
  subst hy0
  have h5:=h4.2
  subst h5
  have hs:qA (2 ^ 4200) lR oW [some (.d (.int a)),some (.d (.int b))]=some (.nx [some (.d (.int x)),some (.d (.int 0))]):=h1
  have hg':(x.natAbs:Int)=(Pq a b:Int):=by rw [←hg];simp
  simp only [uZ,Eo,iO,jQ,aR,i8,br,cQ,bx,eQ,kY,oP,qj,aA,ay,uo,ab,vC,ek,ah,aa,cM,az,dX,lI,ul,lJ,xB,jf,um,mY,vV,gC,gb,ci,bH,mx,e_,gz,hR,cU,cK,pM,sE,cy,aL,aj,bT,bZ,aJ,bh,p6,dC,ez,cE,fC,gP,gN,gL,gK,eD,eA,eE,dg,eu,ma,gB,jx,md,jA,gO,jy,jz,eI,eH,dh,eJ,mf,jm,er,iI,iJ,lU,df,de,dH,gM,Pi, -Qc, -Pw, -Qz, -QF, -Pn, -Qe, -getElem?_pos, -Qo,l8,l7,lZ,lY,l5,l6,l4,l9]
  simp? [hs,hg']
theorem E5(t b:Int)(hb:0 < b)(h:Bt 4000 b):rS [.d (.int t),.d (.int b)]=some (.d (.tuple [.int (gq t b).1,.int (gq t b).2]),[.d (.int t),.d (.int b)]):=by
  have g0:=xT (t:=t) (b:=b) (by lia)
  have g1:(Pq t b:Int)≠0:=by lia
  have g8:Bt 8000 (Pq t b:Int):=(FF (t:=t) (by lia) h).mono (by decide)
  have e:gq t b=(t.fdiv (Pq t b:Int),b.fdiv (Pq t b:Int)):=by unfold gq;rw [if_neg (by lia)]
  rw [e]
  simp? [rS,Ep,JM t b h,CL g1 g8]
theorem Es{i:Int}{n:Nat}(h1: -2147483648 < i)(h2:i < 2147483648)(hn:31≤n):Bt n i:=Bt.mono (m:=31) (by unfold Bt;lia) hn
def zQ(t b:Int):Prop:=0≤t∧t≤b∧1≤b∧b≤100∧Pq t b=1
theorem B1(n k:Int)(hn:0≤n):∃t b,fY [.d (.int n),.d (.int k)]=some (.d (.tuple [.int t,.int b]),[.d (.int n),.d (.int k)])∧zQ t b:=by
  have b9:Bt 8000 9:=m4 (by decide) (by decide)
  have b100:Bt 8000 100:=m4 (by decide) (by decide)
  have low:∀t b:Int,0 < b→0≤t→t≤b→b≤100→zQ (gq t b).1 (gq t b).2:=fun t b hb h0 h1 h2=>by
    obtain⟨r1,r2,r3,r4⟩:=wL hb h0 h1 h2
    exact⟨r1,r2,r3,r4,Au (by lia)⟩
  by_cases c0:k=0
  · subst c0
    obtain⟨x,hx,ha⟩:=pA (xs:=[PyData.tuple [.int 1,.int 2],.tuple [.int 1,.int 3],.tuple [.int 2,.int 3],.tuple [.int 1,.int 1],.tuple [.int 0,.int 1],.tuple [.int 3,.int 4]]) (i:=n % 6) (by lia) (by simp;lia)
    obtain⟨t,b,rfl,hc⟩:∃t b,x=.tuple [.int t,.int b]∧zQ t b:=by
      simp only [QI,RI,or_false] at hx
      rcases hx with rfl | rfl | rfl | rfl | rfl | rfl<;>exact⟨_,_,rfl,by unfold zQ;decide⟩
    exact⟨t,b,by simp? [fY,jX,ba,ha],hc⟩
  · by_cases c1:k=1
    · subst c1
      have hm:(n / 9) % (2+n % 9 - 1) < 2+n % 9 - 1:=Sm _ (by lia)
      have hm0:0≤(n / 9) % (2+n % 9 - 1):=Sl _ (by lia)
      refine⟨_,_,?_,low (1+(n / 9) % (2+n % 9 - 1)) (2+n % 9) (by lia) (by lia) (by lia) (by lia)⟩
      have hpos:∀e:En,bD e (.d (.int (n / 9))) (.d (.int (2+n % 9 - 1)))=_:=fun e=>ba (by lia)
      have hl:=E5 (1+(n / 9) % (2+n % 9 - 1)) (2+n % 9) (by lia) (Es (by lia) (by lia) (by decide))
      simp? [fY,jX,ba,gW,b9,hpos,hl]
    · by_cases c2:k=2
      · subst c2
        have hm:(n / 100) % (1+n % 100+1) < 1+n % 100+1:=Sm _ (by lia)
        have hm0:0≤(n / 100) % (1+n % 100+1):=Sl _ (by lia)
        refine⟨_,_,?_,low ((n / 100) % (1+n % 100+1)) (1+n % 100) (by lia) (by lia) (by lia) (by lia)⟩
        have hpos:∀e:En,bD e (.d (.int (n / 100))) (.d (.int (1+n % 100+1)))=_:=fun e=>ba (by lia)
        have hl:=E5 ((n / 100) % (1+n % 100+1)) (1+n % 100) (by lia) (Es (by lia) (by lia) (by decide))
        simp? [fY,jX,ba,gW,b100,hpos,hl]
      · refine⟨1,1,?_,by unfold zQ;decide⟩
        simp? [fY,jX,c0,c1,c2]
theorem D_(n k:Int):∃r,mw [.d (.int n),.d (.int k)]=some (.d (.int r),[.d (.int n),.d (.int k)])∧0≤r∧r≤1000:=by
  obtain⟨x,hx,ha⟩:=pA (xs:=[PyData.int (n % 7),.int (5+n % 2),.int (n % 1001),.int (1000 - n % 3)]) (i:=k % 4) (by lia) (by simp;lia)
  obtain⟨r,rfl,hr⟩:∃r,x=.int r∧0≤r∧r≤1000:=by
    simp only [QI,RI,or_false] at hx
    rcases hx with rfl | rfl | rfl | rfl<;>exact⟨_,rfl,by lia,by lia⟩
  exact⟨r,by simp? [mw,xI,ba,ha],hr⟩
abbrev tE(ds:List Int)(things many shape odds ws:Int)(ts:List lK)(v7 v8 v9 v10 v11 v12:Option Sv):En:=[some (.l (ds.map .int)),some (.d (.int things)),some (.d (.int many)),some (.d (.int shape)),some (.d (.int odds)),some (.d (.int ws)),some (.l (ts.map b5)),v7,v8,v9,v10,v11,v12]
inductive TR (things many shape odds ws:Int) (ts:List lK) (k:Option Sv):En→Prop
  | mk {t ds w8 w9 w10 w11 w12} (hd:j0 ds) (ht:t.Ok things):TR things many shape odds ws ts k (tE ds things many shape odds ws (ts++[t]) k w8 w9 w10 w11 w12)
inductive TI (things many a b c:Int) (i:Nat):En→Prop
  | mk {ts ds w7 w8 w9 w10 w11 w12} (hd:j0 ds) (hl:ts.length=i) (ht:∀t∈ts,t.Ok things):TI things many a b c i (tE ds things many a b c ts w7 w8 w9 w10 w11 w12)
theorem JN(ds:List Int)(things many shape odds ws:Int)(ts:List lK)(k:Int)(v8 v9 v10 v11 v12:Option Sv)(hd:j0 ds)(h2:2≤things)(h12:things≤100)(s0:0≤shape)(s1:shape < 6)(k0:0≤k)(hl:ts.length≤1000):
    ∃e',iS (tE ds things many shape odds ws ts (some (.d (.int k))) v8 v9 v10 v11 v12)=some (.nx e')∧TR things many shape odds ws ts (some (.d (.int k))) e':=by
  obtain⟨n,d1,tn, -, -,hd1⟩:=nI hd
  obtain⟨m,d2,tm,m0, -,hd2⟩:=nI hd1
  obtain⟨x,hx,ha⟩:=pA (xs:=[PyData.int (n % things),.int 0,.int (k % things),.int (n % things),.int (n % 2),.int (n % things)]) (i:=shape) s0 (by simp;lia)
  have tp:0 < things:=Tv (by decide) h2
  have tq:0 < things - 1:=Int.sub_pos_of_lt (Tv (by decide) h2)
  have nt:0≤n % things∧n % things < things:=⟨Ce tp,Cf tp⟩
  have kt:0≤k % things∧k % things < things:=⟨Ce tp,Cf tp⟩
  obtain⟨one,rfl,o0,o1⟩:∃r,x=.int r∧0≤r∧r < things:=by
    simp only [QI,RI,or_false] at hx
    rcases hx with rfl | rfl | rfl | rfl | rfl | rfl<;>exact⟨_,rfl,by lia,by lia⟩
  have r0:0≤(n / 12) % (things - 1):=Ce tq
  have r1:(n / 12) % (things - 1) < things - 1:=Cf tq
  have q0:0≤(one+1+(n / 12) % (things - 1)) % things:=Ce tp
  have q1:(one+1+(n / 12) % (things - 1)) % things < things:=Cf tp
  have qn:(one+1+(n / 12) % (things - 1)) % things≠one:=fun z=>by
    by_cases c:one+1+(n / 12) % (things - 1) < things
    · rw [Int.emod_eq_of_lt (by lia) c] at z;lia
    · have e:(one+1+(n / 12) % (things - 1)) % things=(one+1+(n / 12) % (things - 1) - things) % things:=by rw [Int.sub_emod_right]
      rw [e,Int.emod_eq_of_lt (by lia) (by lia)] at z;lia
  obtain⟨t,b,c1,c2,c3,c4,c5,c6⟩:=B1 m odds m0
  obtain⟨w,w1,w2,w3⟩:=D_ (m / 10007) ws
  have b12:Bt 8000 12:=m4 (by decide) (by decide)
  have b107:Bt 8000 10007:=m4 (by decide) (by decide)
  have g1:∀(e:En) (i:Int),bD e (.d (.int i)) (.d (.int things))=some (.d (.int (i % things))):=fun e i=>ba tp
  have g2:∀(e:En) (i:Int),bD e (.d (.int i)) (.d (.int (things - 1)))=some (.d (.int (i % (things - 1)))):=fun e i=>ba tq
  have hlen:ts.length < 1000000:=by lia
  by_cases c:shape=4
  · subst c
    refine⟨tE d2 things many 4 odds ws (ts++[⟨0,1,t,b,w⟩]) (some (.d (.int k))) (some (.d (.int n))) (some (.d (.int 0))) (some (.d (.int 1))) (some (.d (.int m))) (some (.d (.tuple [.int 0,.int 1]))),?_,.mk hd2 ⟨by show(0:Int)≤0;decide,by show(0:Int) < 1;decide,by show(1:Int) < things;lia,c2,c3,c4,c5,w2,w3,c6⟩⟩
    simp? [tE,iS,tn,tm,ba,g1,g2,gW,b12,b107,ha,c1,w1,m5,b5,hlen]
    decide
  · refine⟨tE d2 things many shape odds ws (ts++[⟨min one ((one+1+(n / 12) % (things - 1)) % things),max one ((one+1+(n / 12) % (things - 1)) % things),t,b,w⟩]) (some (.d (.int k))) (some (.d (.int n))) (some (.d (.int one))) (some (.d (.int ((one+1+(n / 12) % (things - 1)) % things)))) (some (.d (.int m))) (some (.d (.tuple [.int (min one ((one+1+(n / 12) % (things - 1)) % things)),.int (max one ((one+1+(n / 12) % (things - 1)) % things))]))),?_,.mk hd2 ⟨by show 0≤min _ _;lia,by show min _ _ < max _ _;lia,by show max _ _ < _;lia,c2,c3,c4,c5,w2,w3,c6⟩⟩
    simp? [tE,iS,tn,tm,ba,g1,g2,gW,b12,b107,ha,c1,w1,m5,b5,hlen,c]
theorem Hv(ds:List Int)(things many:Int)(hd:j0 ds)(h2:2≤things)(h12:things≤100)(m0:0≤many)(m1:many≤1000):∃(ts:List lK) (ds':List Int),p4 [.l (ds.map .int),.d (.int things),.d (.int many)]=some (.d (.tuple (ts.map b5)),[.l (ds'.map .int),.d (.int things),.d (.int many)])∧j0 ds'∧(ts.length:Int)=many∧∀t∈ts,t.Ok things:=by
  obtain⟨n0,d1,t0, -, -,hd1⟩:=nI hd
  obtain⟨n1,d2,t1, -, -,hd2⟩:=nI hd1
  obtain⟨n2,d3,t2, -, -,hd3⟩:=nI hd2
  obtain⟨e',h1,hI⟩:=j3 (own:=[]) (g:=aj 7) (f:=iS) (TI things many (n0 % 6) (n1 % 4) (n2 % 4)) (be 0 many.toNat) 0 (tE d3 things many (n0 % 6) (n1 % 4) (n2 % 4) [] none none none none none none) (fun i x e hx hI=>by
    obtain⟨rfl,hi⟩:=cc hx
    obtain⟨hd',hl,ht⟩:=hI
    rename_i ts ds' w7 w8 w9 w10 w11 w12
    obtain⟨e9,s1,⟨s2,s3⟩⟩:=JN ds' things many (n0 % 6) (n1 % 4) (n2 % 4) ts (0+(i:Int)) w8 w9 w10 w11 w12 hd' h2 h12 (Ce (by decide)) (Cf (by decide)) (by lia) (by lia)
    exact⟨_,_,rfl,s1,eg,.mk s2 (by simp;lia) fun z hz=>by
      rcases ON hz with hz | hz
      · exact ht z hz
      · simp at hz;subst hz;exact s3⟩) (.mk hd3 rfl fun t ht=>by cases ht)
  obtain⟨hd',hl,ht⟩:=hI
  rename_i ts ds' w7 w8 w9 w10 w11 w12
  refine⟨ts,ds',?_,hd',by rw [hl,fm];lia,ht⟩
  have hf:∀W,iM W pT (aj 7) iS (tE d3 things many (n0 % 6) (n1 % 4) (n2 % 4) [] none none none none none none)=some (.nx (tE ds' things many (n0 % 6) (n1 % 4) (n2 % 4) ts w7 w8 w9 w10 w11 w12)):=fun W=>by
    rw [kP (show pT _=some (be 0 many.toNat,[],tE d3 things many (n0 % 6) (n1 % 4) (n2 % 4) [] none none none none none none) from cF (n:=many) (by simp? [tE]) (by lia) (by lia))]
    exact h1
  unfold tE at hf
  simp only [Qc] at hf
  simp? [p4,zE,t0,t1,t2,ba,hf]
abbrev wE(ds:List Int)(most tn things many:Int)(ts:List lK)(way:Int)(ps:List Int)(v8 v9:Option Sv):En:=[some (.l (ds.map .int)),some (.d (.int most)),some (.d (.int tn)),some (.d (.int things)),some (.d (.int many)),some (.d (.tuple (ts.map b5))),some (.d (.int way)),some (.l (ps.map .int)),v8,v9]
inductive WI (most tn things many:Int) (ts:List lK) (way:Int) (i:Nat):En→Prop
  | mk {ps ds w8} (hd:j0 ds) (hpl:ps.length=i) (hps:∀p∈ps,0≤p∧p≤20):WI most tn things many ts way i (wE ds most tn things many ts way ps w8 none)
theorem JO(ds:List Int)(most tn:Int)(hd:j0 ds)(m0:0≤most)(m1:most≤12)(k0:0≤tn)(k1:tn≤16):∃(W:aS) (ds':List Int),rT [.l (ds.map .int),.d (.int most),.d (.int tn)]=some (.d (au W),[.l (ds'.map .int),.d (.int most),.d (.int tn)])∧j0 ds'∧W.Ok∧W.things≤most∧(W.ties.length:Int)≤tn:=by
  obtain⟨n0,d1,t0, -, -,hd1⟩:=nI hd
  obtain⟨n1,d2,t1, -, -,hd2⟩:=nI hd1
  have mp:0 < most+1:=Int.lt_add_one_of_le m0
  have kp:0 < tn+1:=Int.lt_add_one_of_le k0
  have g0:∀(e:En),bD e (.d (.int n0)) (.d (.int (most+1)))=some (.d (.int (n0 % (most+1)))):=fun e=>ba mp
  have g1':∀(e:En),bD e (.d (.int n1)) (.d (.int (tn+1)))=some (.d (.int (n1 % (tn+1)))):=fun e=>ba kp
  have th0:0≤n0 % (most+1):=Ce mp
  have th1:n0 % (most+1) < most+1:=Cf mp
  have ti0:0≤n1 % (tn+1):=Ce kp
  have ti1:n1 % (tn+1) < tn+1:=Cf kp
  clear mp kp
  generalize n0 % (most+1)=things at th0 th1 g0
  generalize n1 % (tn+1)=tm at ti0 ti1 g1'
  obtain⟨many,hmany,mm,m00,m01⟩:∃many:Int,many=tm*(if decide (1 < things)=true then 1 else 0)∧(1 < things∨many=0)∧0≤many∧many≤tn:=by
    by_cases c:1 < things
    · exact⟨tm,by simp [c],.inl c,ti0,by lia⟩
    · exact⟨0,by simp [c],.inr rfl,by lia,by lia⟩
  have gm:∀e:En,pQ e (.d (.int tm)) (.d (.int (if decide (1 < things)=true then 1 else 0)))=some (.d (.int many)):=fun e=>by
    rw [pR (tT (by split<;>decide) (by split<;>decide)),hmany]
  have gi:∀e:En,g1 pP e [.d (.bool (decide (1 < things)))]=some (.d (.int (if decide (1 < things)=true then 1 else 0))):=fun e=>rfl
  generalize (if decide (1 < things)=true then 1 else 0:Int)=one at gm gi
  obtain⟨ts,d3,t3,hd3,hlen,hts⟩:=Hv d2 (max 2 things) many hd2 (by lia) (by lia) m00 (by lia)
  obtain⟨n4,d4,t4, -, -,hd4⟩:=nI hd3
  obtain⟨e',h1,hI⟩:=j3 (own:=[]) (g:=aj 8) (f:=oX) (WI most tn things many ts (n4 % 3)) (be 0 things.toNat) 0 (wE d4 most tn things many ts (n4 % 3) [] none none) (fun i x e hx hI=>by
    obtain⟨rfl,hi⟩:=cc hx
    obtain⟨hd5,hpl,hps⟩:=hI
    rename_i ps d5 w8
    obtain⟨p1,d6,t6, -, -,hd6⟩:=nI hd5
    obtain⟨p2,d7,t7, -, -,hd7⟩:=nI hd6
    obtain⟨z,hz,ha⟩:=pA (xs:=[PyData.int 20,.int (1+p1 % 3),.int (p2 % 21)]) (i:=n4 % 3) (Ce (by decide)) (Cf (k:=3) (by decide))
    obtain⟨p,rfl,hp⟩:∃r,z=.int r∧0≤r∧r≤20:=by
      simp only [QI,RI,or_false] at hz
      rcases hz with rfl | rfl | rfl<;>exact⟨_,rfl,by lia,by lia⟩
    refine⟨wE d5 most tn things many ts (n4 % 3) ps (some (.d (.int (0+(i:Int))))) none,wE d7 most tn things many ts (n4 % 3) (ps++[p]) (some (.d (.int (0+(i:Int))))) none,rfl,?_,eg,.mk hd7 (by simp;lia) fun q hq=>by
      rcases ON hq with hq | hq
      · exact hps q hq
      · simp at hq;subst hq;exact hp⟩
    have hlen:ps.length < 1000000:=by lia
    simp? [wE,oX,t6,t7,ba,ha,hlen]) (.mk hd4 rfl fun p hp=>by cases hp)
  obtain⟨hd5,hpl,hps⟩:=hI
  rename_i ps d5 w8
  have hf:∀W,iM W tI (aj 8) oX (wE d4 most tn things many ts (n4 % 3) [] none none)=some (.nx (wE d5 most tn things many ts (n4 % 3) ps w8 none)):=fun W=>by
    rw [kP (show tI _=some (be 0 things.toNat,[],wE d4 most tn things many ts (n4 % 3) [] none none) from cF (n:=things) (by simp? [wE]) (by lia) (by lia))]
    exact h1
  obtain⟨p1,d6,t6, -, -,hd6⟩:=nI hd5
  obtain⟨p2,d7,t7, -, -,hd7⟩:=nI hd6
  obtain⟨p3,d8,t8, -, -,hd8⟩:=nI hd7
  have xp:0 < max 1 many:=Tv Int.zero_lt_one (Int.le_max_left _ _)
  have gx:∀(e:En),bD e (.d (.int p1)) (.d (.int (max 1 many)))=some (.d (.int (p1 % max 1 many))):=fun e=>ba xp
  have x0:0≤p1 % max 1 many:=Ce xp
  have x1:p1 % max 1 many < max 1 many:=Cf xp
  obtain⟨z,hz,ha⟩:=pA (xs:=[PyData.int 40,.int (1+p1 % max 1 many),.int (p2 % 41)]) (i:=p3 % 3) (Ce (by decide)) (Cf (k:=3) (by decide))
  obtain⟨asks,rfl,hasks⟩:∃r,z=.int r∧0≤r∧r≤40:=by
    simp only [QI,RI,or_false] at hz
    rcases hz with rfl | rfl | rfl<;>exact⟨_,rfl,by lia,by lia⟩
  rw [fm] at hpl
  refine⟨⟨things,ts,ps,asks⟩,d8,?_,hd8,⟨th0,by show things≤12;lia,fun t ht=>?_,by show ts.length≤16;lia,by show(ps.length:Int)=things;lia,hps,hasks.1,hasks.2⟩,by show things≤most;lia,by show(ts.length:Int)≤tn;lia⟩
  · unfold wE at hf
    simp only [Qc] at hf
    simp? [rT,Er,t0,t1,g0,g1',gm,gi,t3,t4,ba,hf,t6,t7,t8,gx,ha,au]
  · rcases mm with c | c
    · have:=hts t ht
      rw [show max 2 things=things by lia] at this
      exact this
    · have:ts=[]:=Tj.mp (by lia)
      subst this;cases ht
theorem sC{W:aS}{asked:List Int}{thing:Int}(h:∀k∈asked,ix W k)(hl:asked.length≤1000):gX [.d (au W),.d (.tuple (asked.map .int)),.d (.int thing)]=some (.d (.int (W.many asked thing)),[.d (au W),.d (.tuple (asked.map .int)),.d (.int thing)]):=by
  let cs:En:=[some (.d (.int thing)),some (.d (au W))]
  have hc:∀x∈asked.map PyData.int,fM (cs++[some (.d x)])=some (q_ (fun k=>W.has k thing) x,cs++[some (.d x)]):=fun x hx=>by
    obtain⟨k,hk,rfl⟩:=OO hx
    simp? [q_,cs,fM,au,iQ (h k hk),b5,aS.has]
  have he:∀x∈asked.map PyData.int,q_ (fun k=>W.has k thing) x=true→fQ (cs++[some (.d x)])=some (.d (id x),cs++[some (.d x)]):=fun x hx _=>by
    simp? [cs,fQ]
  obtain⟨t',hf⟩:=eX (cs:=cs) (ft:=fM) (fe:=fQ) (b:=q_ (fun k=>W.has k thing)) (y:=id) (asked.map PyData.int) none [] hc he (by simp;lia)
  have hv:=mX (cp:=[(2,"_law_thing"),(0,"_law_web_here")]) (nT:=1) (fi:=n9) (g:=aj 2) (ft:=fM) (fe:=fQ) (e:=[some (.d (au W)),some (.d (.tuple (asked.map PyData.int))),some (.d (.int thing))]) (cs:=cs) (t:=[none]) (t':=[t']) (pU (fa:=ab 1) rfl) rfl rfl hf
  have hlen:(([]++Ro id (List.filter (q_ (fun k=>W.has k thing)) (asked.map PyData.int))).length:Int)=W.many asked thing:=by
    unfold aS.many
    simp [SQ]
    rfl
  simp only [gX,rk,iO,jQ,aR,i8,br,cQ,bx,eQ,kY,oP,qj,aA,ay,uo,ab,vC,ek,ah,aa,cM,az,dX,lI,ul,lJ,xB,jf,um,mY,vV,gC,gb,ci,bH,mx,e_,gz,hR,cU,cK,pM,sE,cy,aL,aj,bT,bZ,aJ,bh,p6,dC,ez,cE,fC,gP,gN,gL,gK,eD,eA,eE,dg,eu,ma,gB,jx,md,jA,gO,jy,jz,eI,eH,dh,eJ,mf,jm,er,iI,iJ,lU,df,de,dH,gM,Pi, -Qc, -Pw, -Qz, -QF, -Pn, -Qe, -getElem?_pos, -Qo,l8,l7,lZ,lY,l5,l6,l4,l9]
  simp? [hv]
  simpa using hlen
theorem AU{W:aS}(ok:W.Ok){thing:Int}(h0:0≤thing)(h1:thing < W.things):atI (W.pat.map PyData.int) thing=some (.int (W.pat.getD thing.toNat 0)):=uy h0 (by have:=ok.pl;lia)
theorem E6{W:aS}(ok:W.Ok){asked taken:List Int}{k:Int}(h:∀k∈asked,ix W k)(hl:asked.length≤1000)(hk:ix W k):j9 [.d (au W),.d (c_ asked taken),.d (.int k)]=some (.d (.bool (W.may asked taken k)),[.d (au W),.d (c_ asked taken),.d (.int k)]):=by
  have tk:=hk.ok ok
  have t0:=tk.o0
  have t1:=tk.o1
  have t2:=tk.o2
  have p1:=AU ok (thing:=(W.tie k).one) (by lia) (by lia)
  have p2:=AU ok (thing:=(W.tie k).other) (by lia) (by lia)
  have a1:=sC (W:=W) (asked:=asked) (thing:=(W.tie k).one) h hl
  have a2:=sC (W:=W) (asked:=asked) (thing:=(W.tie k).other) h hl
  rw [cJ] at a1 a2 ⊢
  unfold aS.may aS.bears
  by_cases c1:asked.contains k=true
  · simp? [j9,rm,c_,c1]
    simp at c1
    simp [c1]
  · by_cases c2:W.asks≤(asked.length:Int)
    · have c1':k∉asked:=by simpa using c1
      simp? [j9,rm,c_,c1',c2]
    · have c1':k∉asked:=by simpa using c1
      have turn:∀(thing:Int) (v5:Option Sv),gX [.d (.tuple [.int W.things,.tuple (W.ties.map b5),.tuple (W.pat.map .int),.int W.asks]),.d (.tuple (asked.map .int)),.d (.int thing)]=some (.d (.int (W.many asked thing)),[.d (.tuple [.int W.things,.tuple (W.ties.map b5),.tuple (W.pat.map .int),.int W.asks]),.d (.tuple (asked.map .int)),.d (.int thing)])→atI (W.pat.map PyData.int) thing=some (.int (W.pat.getD thing.toNat 0))→
          jo [some (.d (.tuple [.int W.things,.tuple (W.ties.map b5),.tuple (W.pat.map .int),.int W.asks])),some (.d (c_ asked taken)),some (.d (.int k)),some (.d (.tuple (asked.map .int))),some (.d (.tuple (taken.map .int))),some (.d (.int thing))]=(if (!taken.contains thing&&decide (W.many asked thing < W.pat.getD thing.toNat 0))=true then some (.nx [some (.d (.tuple [.int W.things,.tuple (W.ties.map b5),.tuple (W.pat.map .int),.int W.asks])),some (.d (c_ asked taken)),some (.d (.int k)),some (.d (.tuple (asked.map .int))),some (.d (.tuple (taken.map .int))),some (.d (.int thing))]) else some (.rt (.d (.bool false)) [some (.d (.tuple [.int W.things,.tuple (W.ties.map b5),.tuple (W.pat.map .int),.int W.asks])),some (.d (c_ asked taken)),some (.d (.int k)),some (.d (.tuple (asked.map .int))),some (.d (.tuple (taken.map .int))),some (.d (.int thing))])):=by
        intro thing v5 ha hp
        by_cases d1:taken.contains thing=true
        · have d1':thing∈taken:=by simpa using d1
          simp? [jo,d1']
        · have d1':thing∉taken:=by simpa using d1
          by_cases d2:W.many asked thing < W.pat.getD thing.toNat 0
          · have d2':¬W.pat.getD thing.toNat 0≤W.many asked thing:=by lia
            simp only [Tn] at d2 d2' hp
            simp? [jo,d1',ha,hp,d2,d2']
          · have d2':W.pat.getD thing.toNat 0≤W.many asked thing:=by lia
            simp only [Tn] at d2 d2' hp
            simp? [jo,d1',ha,hp,d2,d2']
      have u1:=turn (W.tie k).one none a1 p1
      have u2:=turn (W.tie k).other none a2 p2
      have hf:∀Wl,iM Wl xU (aj 5) jo [some (.d (.tuple [.int W.things,.tuple (W.ties.map b5),.tuple (W.pat.map .int),.int W.asks])),some (.d (c_ asked taken)),some (.d (.int k)),some (.d (.tuple (asked.map .int))),some (.d (.tuple (taken.map .int))),none]=kX [] (aj 5) jo [.int (W.tie k).one,.int (W.tie k).other] [some (.d (.tuple [.int W.things,.tuple (W.ties.map b5),.tuple (W.pat.map .int),.int W.asks])),some (.d (c_ asked taken)),some (.d (.int k)),some (.d (.tuple (asked.map .int))),some (.d (.tuple (taken.map .int))),none]:=fun Wl=>by
        rw [kP]
        exact pU (by simp? [iQ hk,b5])
      unfold c_ at u1 u2 hf ⊢
      by_cases e1:(!taken.contains (W.tie k).one&&decide (W.many asked (W.tie k).one < W.pat.getD (W.tie k).one.toNat 0))=true
      · by_cases e2:(!taken.contains (W.tie k).other&&decide (W.many asked (W.tie k).other < W.pat.getD (W.tie k).other.toNat 0))=true
        · rw [if_pos e1] at u1
          rw [if_pos e2] at u2
          rw [e1,e2]
          simp only [j9,rm,iO,jQ,aR,i8,br,cQ,bx,eQ,kY,oP,qj,aA,ay,uo,ab,vC,ek,ah,aa,cM,az,dX,lI,ul,lJ,xB,jf,um,mY,vV,gC,gb,ci,bH,mx,e_,gz,hR,cU,cK,pM,sE,cy,aL,aj,bT,bZ,aJ,bh,p6,dC,ez,cE,fC,gP,gN,gL,gK,eD,eA,eE,dg,eu,ma,gB,jx,md,jA,gO,jy,jz,eI,eH,dh,eJ,mf,jm,er,iI,iJ,lU,df,de,dH,gM,Pi, -Qc, -Pw, -Qz, -QF, -Pn, -Qe, -getElem?_pos, -Qo,l8,l7,lZ,lY,l5,l6,l4,l9]
          simp? [c1',c2,hf,kX,u1,u2,eg]
        · rw [if_pos e1] at u1
          rw [if_neg e2] at u2
          rw [e1,Bool.not_eq_true _ |>.mp e2]
          simp only [j9,rm,iO,jQ,aR,i8,br,cQ,bx,eQ,kY,oP,qj,aA,ay,uo,ab,vC,ek,ah,aa,cM,az,dX,lI,ul,lJ,xB,jf,um,mY,vV,gC,gb,ci,bH,mx,e_,gz,hR,cU,cK,pM,sE,cy,aL,aj,bT,bZ,aJ,bh,p6,dC,ez,cE,fC,gP,gN,gL,gK,eD,eA,eE,dg,eu,ma,gB,jx,md,jA,gO,jy,jz,eI,eH,dh,eJ,mf,jm,er,iI,iJ,lU,df,de,dH,gM,Pi, -Qc, -Pw, -Qz, -QF, -Pn, -Qe, -getElem?_pos, -Qo,l8,l7,lZ,lY,l5,l6,l4,l9]
          simp? [c1',c2,hf,kX,u1,u2,eg]
      · rw [if_neg e1] at u1
        rw [Bool.not_eq_true _ |>.mp e1]
        simp only [j9,rm,iO,jQ,aR,i8,br,cQ,bx,eQ,kY,oP,qj,aA,ay,uo,ab,vC,ek,ah,aa,cM,az,dX,lI,ul,lJ,xB,jf,um,mY,vV,gC,gb,ci,bH,mx,e_,gz,hR,cU,cK,pM,sE,cy,aL,aj,bT,bZ,aJ,bh,p6,dC,ez,cE,fC,gP,gN,gL,gK,eD,eA,eE,dg,eu,ma,gB,jx,md,jA,gO,jy,jz,eI,eH,dh,eJ,mf,jm,er,iI,iJ,lU,df,de,dH,gM,Pi, -Qc, -Pw, -Qz, -QF, -Pn, -Qe, -getElem?_pos, -Qo,l8,l7,lZ,lY,l5,l6,l4,l9]
        simp? [c1',c2,hf,kX,u1,eg]
theorem B0{W:aS}{asked taken:List Int}{k:Int}(truth:Bool)(hk:ix W k)(h1:asked.length < 60)(h2:taken.length < 60):ic [.d (au W),.d (c_ asked taken),.d (.int k),.d (.bool truth)]=some (.d (c_ (aS.askd asked k) (W.took taken k truth)),[.d (au W),.d (c_ asked taken),.d (.int k),.d (.bool truth)]):=by
  have s1:∀e,g1 eY e [.d (.tuple (asked.map PyData.int++[.int k]))]=some (.l ((je (asked++[k])).map .int)):=fun e=>by
    have:=jB (e:=e) (ns:=asked++[k]) (by simp;lia)
    simpa using this
  have s2:∀e,g1 eY e [.d (.tuple (taken.map PyData.int++[.int (W.tie k).one,.int (W.tie k).other]))]=some (.l ((je (taken++[(W.tie k).one,(W.tie k).other])).map .int)):=fun e=>by
    have:=jB (e:=e) (ns:=taken++[(W.tie k).one,(W.tie k).other]) (by simp;lia)
    simpa using this
  have g1':∀e,cV e (.d (.tuple (asked.map .int))) (.d (.tuple [.int k]))=some (.d (.tuple (asked.map .int++[.int k]))):=fun e=>m5 (by simp;lia)
  have g2':∀e,cV e (.d (.tuple (taken.map .int))) (.d (.tuple [.int (W.tie k).one,.int (W.tie k).other]))=some (.d (.tuple (taken.map .int++[.int (W.tie k).one,.int (W.tie k).other]))):=fun e=>m5 (by simp;lia)
  rw [cJ]
  cases truth with
  | true=>simp? [ic,pB,c_,iQ hk,b5,g1',g2',s1,s2,aS.askd,aS.took]
  | false=>simp? [ic,pB,c_,g1',s1,aS.askd,aS.took]
theorem zh{W:aS}(ok:W.Ok){asked taken:List Int}(h:∀k∈asked,ix W k)(hl:asked.length≤1000):iY [.d (au W),.d (c_ asked taken)]=some (.l ((W.can asked taken).map .int),[.d (au W),.d (c_ asked taken)]):=by
  let cs:En:=[some (.d (au W)),some (.d (c_ asked taken))]
  have wl:=ok.len
  have hc:∀x∈be 0 W.ties.length,fL (cs++[some (.d x)])=some (q_ (fun k=>W.may asked taken k) x,cs++[some (.d x)]):=fun x hx=>by
    obtain⟨i,hi⟩:=Sf hx
    obtain⟨rfl,hi⟩:=cc hi
    have:=E6 ok (taken:=taken) h hl (k:=0+(i:Int)) ⟨by lia,by lia⟩
    simp only [Int.zero_add] at this
    simp? [q_,cs,fL,this]
  have he:∀x∈be 0 W.ties.length,q_ (fun k=>W.may asked taken k) x=true→fP (cs++[some (.d x)])=some (.d (id x),cs++[some (.d x)]):=fun x hx _=>by
    simp? [cs,fP]
  obtain⟨t',hf⟩:=eX (cs:=cs) (ft:=fL) (fe:=fP) (b:=q_ (fun k=>W.may asked taken k)) (y:=id) (be 0 W.ties.length) none [] hc he (by rw [fm];simp;lia)
  have hv:=mX (cp:=[(0,"_law_web_here"),(1,"_law_stand")]) (nT:=1) (fi:=j6) (g:=aj 2) (ft:=fL) (fe:=fP) (e:=[some (.d (au W)),some (.d (c_ asked taken))]) (cs:=cs) (t:=[none]) (t':=[t']) (show j6 [some (.d (au W)),some (.d (c_ asked taken))]=some (be 0 W.ties.length,[],[some (.d (au W)),some (.d (c_ asked taken))]) from cF (n:=(W.ties.length:Int)) (by rw [cJ];simp? [Pi]) (by lia) (by lia)) rfl rfl hf
  rw [Qz,List.map_id,nG] at hv
  simp only [iY,rj,iO,jQ,aR,i8,br,cQ,bx,eQ,kY,oP,qj,aA,ay,uo,ab,vC,ek,ah,aa,cM,az,dX,lI,ul,lJ,xB,jf,um,mY,vV,gC,gb,ci,bH,mx,e_,gz,hR,cU,cK,pM,sE,cy,aL,aj,bT,bZ,aJ,bh,p6,dC,ez,cE,fC,gP,gN,gL,gK,eD,eA,eE,dg,eu,ma,gB,jx,md,jA,gO,jy,jz,eI,eH,dh,eJ,mf,jm,er,iI,iJ,lU,df,de,dH,gM,Pi, -Qc, -Pw, -Qz, -QF, -Pn, -Qe, -getElem?_pos, -Qo,l8,l7,lZ,lY,l5,l6,l4,l9]
  simp? [hv]
theorem kj{W:aS}{k:Int}(hk:ix W k):bV [.d (au W),.d (.int k)]=some (.d (.tuple [.int (W.tie k).one,.int (W.tie k).other]),[.d (au W),.d (.int k)]):=by
  rw [cJ]
  simp? [bV,nU,iQ hk,b5]
theorem vO{W:aS}{asked:List Int}{thing:Int}(h:∀k∈asked,ix W k)(hl:asked.length≤1000):f9 [.d (au W),.d (.tuple (asked.map .int)),.d (.int thing)]=some (.d (.int (W.many asked thing)),[.d (au W),.d (.tuple (asked.map .int)),.d (.int thing)]):=by
  let cs:En:=[some (.d (.int thing)),some (.d (au W))]
  have hc:∀x∈asked.map PyData.int,dF (cs++[some (.d x)])=some (q_ (fun k=>W.has k thing) x,cs++[some (.d x)]):=fun x hx=>by
    obtain⟨k,hk,rfl⟩:=OO hx
    have t:=kj (h k hk)
    simp? [q_,cs,dF,t,aS.has]
  have he:∀x∈asked.map PyData.int,q_ (fun k=>W.has k thing) x=true→dG (cs++[some (.d x)])=some (.d (id x),cs++[some (.d x)]):=fun x hx _=>by
    simp? [cs,dG]
  obtain⟨t',hf⟩:=eX (cs:=cs) (ft:=dF) (fe:=dG) (b:=q_ (fun k=>W.has k thing)) (y:=id) (asked.map PyData.int) none [] hc he (by simp;lia)
  have hv:=mX (cp:=[(2,"thing"),(0,"web")]) (nT:=1) (fi:=k7) (g:=aj 2) (ft:=dF) (fe:=dG) (e:=[some (.d (au W)),some (.d (.tuple (asked.map PyData.int))),some (.d (.int thing))]) (cs:=cs) (t:=[none]) (t':=[t']) (pU (fa:=ab 1) rfl) rfl rfl hf
  have hlen:(([]++Ro id (List.filter (q_ (fun k=>W.has k thing)) (asked.map PyData.int))).length:Int)=W.many asked thing:=by
    unfold aS.many
    simp [SQ]
    rfl
  simp only [f9,nQ,iO,jQ,aR,i8,br,cQ,bx,eQ,kY,oP,qj,aA,ay,uo,ab,vC,ek,ah,aa,cM,az,dX,lI,ul,lJ,xB,jf,um,mY,vV,gC,gb,ci,bH,mx,e_,gz,hR,cU,cK,pM,sE,cy,aL,aj,bT,bZ,aJ,bh,p6,dC,ez,cE,fC,gP,gN,gL,gK,eD,eA,eE,dg,eu,ma,gB,jx,md,jA,gO,jy,jz,eI,eH,dh,eJ,mf,jm,er,iI,iJ,lU,df,de,dH,gM,Pi, -Qc, -Pw, -Qz, -QF, -Pn, -Qe, -getElem?_pos, -Qo,l8,l7,lZ,lY,l5,l6,l4,l9]
  simp? [hv]
  simpa using hlen
theorem Du{W:aS}(ok:W.Ok){thing:Int}(h0:0≤thing)(h1:thing < W.things):atI (W.pat.map PyData.int) thing=some (.int (W.pat.getD thing.toNat 0)):=uy h0 (by have:=ok.pl;lia)
theorem yr{W:aS}(ok:W.Ok){asked taken:List Int}{thing:Int}(h:∀k∈asked,ix W k)(hl:asked.length≤1000)(h0:0≤thing)(h1:thing < W.things):bK [.d (au W),.d (c_ asked taken),.d (.int thing)]=some (.d (.bool (W.bears asked taken thing)),[.d (au W),.d (c_ asked taken),.d (.int thing)]):=by
  have a:=vO (thing:=thing) h hl
  have p:=Du ok h0 h1
  have g2:∀e,dI e (.d (au W)) (.d (.int 2))=some (.d (.tuple (W.pat.map .int))):=fun e=>by rw [cJ,gB,iI];rfl
  unfold aS.bears
  generalize W.pat.getD thing.toNat 0=q at p ⊢
  by_cases c:taken.contains thing=true
  · simp only [c]
    simp at c
    simp? [bK,eW,c_,c]
  · have c':taken.contains thing=false:=by simpa using c
    simp only [c']
    simp at c
    unfold c_ at a ⊢
    simp? [bK,eW,c,a,g2,p]
theorem sD{W:aS}(ok:W.Ok){asked taken:List Int}{k:Int}(h:∀k∈asked,ix W k)(hl:asked.length≤1000)(hk:ix W k):dm [.d (au W),.d (c_ asked taken),.d (.int k)]=some (.d (.bool (W.may asked taken k)),[.d (au W),.d (c_ asked taken),.d (.int k)]):=by
  have o:=hk.ok ok
  have o0:=o.o0;have o1:=o.o1;have o2:=o.o2
  have b1:=yr ok (taken:=taken) (thing:=(W.tie k).one) h hl (by lia) (by lia)
  have b2:=yr ok (taken:=taken) (thing:=(W.tie k).other) h hl (by lia) (by lia)
  have th:=kj hk
  have g3:∀e,dI e (.d (au W)) (.d (.int 3))=some (.d (.int W.asks)):=fun e=>by rw [cJ,gB,iJ];rfl
  unfold aS.may
  by_cases c1:asked.contains k=true
  · simp only [c1]
    simp at c1
    simp? [dm,ko,c_,c1]
  · have c1':asked.contains k=false:=by simpa using c1
    simp at c1
    by_cases c2:W.asks≤(asked.length:Int)
    · simp only [c1',c2]
      simp? [dm,ko,c_,c1,c2,g3]
    · simp only [c1',c2]
      have hc:cZ [(0,"web"),(1,"stand")] 1 n_ (aj 2) kh j2 [some (.d (au W)),some (.d (c_ asked taken)),some (.d (.int k)),some (.d (.tuple (asked.map .int)))]=some (.l [.bool (W.bears asked taken (W.tie k).one),.bool (W.bears asked taken (W.tie k).other)],[some (.d (au W)),some (.d (c_ asked taken)),some (.d (.int k)),some (.d (.tuple (asked.map .int)))]):=by
        refine xA (items:=[.int (W.tie k).one,.int (W.tie k).other]) (eo:=[some (.d (au W)),some (.d (c_ asked taken)),some (.d (.int (W.tie k).other))]) (pU (by simp? [th])) ?_ rfl
        have hi:ut [(0,"web"),(1,"stand")] 1 [some (.d (au W)),some (.d (c_ asked taken)),some (.d (.int k)),some (.d (.tuple (asked.map .int)))]=[some (.d (au W)),some (.d (c_ asked taken)),none]:=rfl
        rw [hi]
        simp? [iW,kh,j2,b1,b2]
      have ga:∀e,g1 (j5 uL) e [.l [.bool (W.bears asked taken (W.tie k).one),.bool (W.bears asked taken (W.tie k).other)]]=some (.d (.bool (W.bears asked taken (W.tie k).one&&W.bears asked taken (W.tie k).other))):=fun e=>by
        simp [g1,j5,eU,uL,sU]
      unfold c_ at hc ⊢
      simp? [dm,ko,c1,c2,g3,hc,ga]
theorem qM{W:aS}{asked taken:List Int}{k:Int}(truth:Bool)(hk:ix W k)(h1:asked.length < 60)(h2:taken.length < 60):bM [.d (au W),.d (c_ asked taken),.d (.int k),.d (.bool truth)]=some (.d (c_ (aS.askd asked k) (W.took taken k truth)),[.d (au W),.d (c_ asked taken),.d (.int k),.d (.bool truth)]):=by
  have s1:∀e,g1 eY e [.d (.tuple (asked.map PyData.int++[.int k]))]=some (.l ((je (asked++[k])).map .int)):=fun e=>by
    have:=jB (e:=e) (ns:=asked++[k]) (by simp;lia)
    simpa using this
  have s2:∀e,g1 eY e [.d (.tuple (taken.map PyData.int++[.int (W.tie k).one,.int (W.tie k).other]))]=some (.l ((je (taken++[(W.tie k).one,(W.tie k).other])).map .int)):=fun e=>by
    have:=jB (e:=e) (ns:=taken++[(W.tie k).one,(W.tie k).other]) (by simp;lia)
    simpa using this
  have g1':∀e,cV e (.d (.tuple (asked.map .int))) (.d (.tuple [.int k]))=some (.d (.tuple (asked.map .int++[.int k]))):=fun e=>m5 (by simp;lia)
  have g2':∀e,cV e (.d (.tuple (taken.map .int))) (.d (.tuple [.int (W.tie k).one,.int (W.tie k).other]))=some (.d (.tuple (taken.map .int++[.int (W.tie k).one,.int (W.tie k).other]))):=fun e=>m5 (by simp;lia)
  have th:=kj hk
  cases truth with
  | true=>simp? [bM,hJ,c_,th,g1',g2',s1,s2,aS.askd,aS.took]
  | false=>simp? [bM,hJ,c_,g1',s1,aS.askd,aS.took]
structure Le (W:aS) (asked taken:List Int):Prop where
  inw:∀k∈asked,ix W k
  sa:asked.Pairwise (· ≤·)
  na:asked.Nodup
  ak:(asked.length:Int)≤W.asks
  bd:∀t:Int,0≤t→t < W.things→W.many asked t≤W.pat.getD t.toNat 0
  st:taken.Pairwise (· ≤·)
  nt:taken.Nodup
  th:∀t∈taken,0≤t∧t < W.things
  ev:(taken.length:Int) % 2=0
  tt:∀t∈taken,0 < W.many asked t
noncomputable def l0(th ak:Int):Str:=OX "things"++OX " "++(nS th++OX " "++(OX "asks"++OX " "++nS ak))++OX "\n"
noncomputable def lP(p:Int):Str:=OX "thing"++OX " "++nS p++OX "\n"
noncomputable def fW(t:lK):Str:=QV++nS t.top++OX "/"++nS t.bot
noncomputable def lT(t:lK):Str:=OX "tie"++OX " "++(nS t.one++OX " "++(nS t.other++OX " "++(fW t++OX " "++nS t.worth)))++OX "\n"
noncomputable def Lj(W:aS):List Str:=[l0 W.things W.asks]++W.pat.map lP++W.ties.map lT
structure LI (t:lK):Prop where
  a:0≤t.one∧t.one≤1000
  b:0≤t.other∧t.other≤1000
  c:0≤t.top∧t.top≤1000
  d:0≤t.bot∧t.bot≤1000
  e:0≤t.worth∧t.worth≤1000
theorem B5(s:Str)(ys:List Str):Txt.join s ys=PN s ys:=StrLaws.glued_eq_join s ys
theorem z8{e:En}{s:Str}{ys:List Str}(h1:s.length≤16)(h2:(ys.map (·.length)).sum+ys.length≤1048576):nZ e (.d (.str s)) (.l (ys.map .str))=some (.d (.str (PN s ys))):=by
  have:∀l:List Str,vL (l.map .str)=some l:=fun l=>by
    induction l with
    | nil=>rfl
    | cons a r ih=>simp [vL,ih]
  simp only [nZ,bP,eU,Pn,this]
  rw [if_pos ⟨h1,h2⟩,B5]
noncomputable def wd:OT→Str
  | .int i=>nS i
  | .str x=>x
  | _=>QV
structure Wd (d:OT):Prop where
  go:∀e:En,g1 eF e [.d d]=some (.d (.str (wd d)))
  ln:(wd d).length≤20
theorem Wd.int{i:Int}(h0:0≤i)(h1:i≤1000):Wd (.int i):=⟨fun e=>Ac h0 h1,by have:=Gy h0 h1;show(nS i).length≤20;lia⟩
theorem Wd.str{x:Str}(h:x.length≤20):Wd (.str x):=⟨fun e=>Ad,h⟩
def LN(r:List (Int × Bool)):List Int:=(r.filter (·.2)).map (·.1)
def kw(W:aS)(r:List (Int × Bool)):Int:=((LN r).map fun k=>(W.tie k).worth).sum
theorem sum_le{W:aS}(ok:W.Ok):∀(ks:List Int),(∀k∈ks,ix W k)→0≤(ks.map fun k=>(W.tie k).worth).sum∧(ks.map fun k=>(W.tie k).worth).sum≤1000*(ks.length:Int)
  | [],_=>by simp
  | k::ks,h=>by
    obtain⟨a,b⟩:=sum_le ok ks fun k hk=>h k (by simp [hk])
    have o:=(h k (by simp)).ok ok
    have:=o.w0;have:=o.w1
    simp only [Pw,List.sum_cons,QD]
    lia
def boolD:OT→Bool
  | .bool b=>b
  | _=>false
noncomputable def Lk(k:Int):Str:=OX "ask "++nS k
theorem IG:∀k:Fin 16,QG (Lk (k.val:Int)) none (some 4)=OX "ask ":=by decide+kernel
theorem IH:∀k:Fin 16,QG (Lk (k.val:Int)) (some 4) none=nS (k.val:Int):=by decide+kernel
theorem II:∀k:Fin 16,Qk (Lk (k.val:Int)) (OX " ")=[OX "ask",nS (k.val:Int)]:=by decide+kernel
theorem IJ:∀k:Fin 16,Sk (nS (k.val:Int))=true∧(nS (k.val:Int)).length≤4∧Sj (nS (k.val:Int))=some (k.val:Int):=by decide+kernel
theorem IK:∀k:Fin 16,∀x∈["yes","no","may","kept","back","best","bound"],Lk (k.val:Int)≠OX x:=by decide+kernel
theorem nj{P:Int→Prop}(h:∀k:Fin 16,P (k.val:Int)){k:Int}(h0:0≤k)(h1:k < 16):P k:=by
  have:=h ⟨k.toNat,by lia⟩
  rw [show(((⟨k.toNat,by lia⟩:Fin 16).val:Nat):Int)=k by simp;lia] at this
  exact this
def bg(W:aS):Std→List (Int × Bool)→Std
  | s,[]=>s
  | s,p::r=>bg W (nxt W s p.1 p.2) r
def kW(W:aS):Std→List (Int × Bool)→Prop
  | _,[]=>True
  | s,p::r=>ix W p.1∧p.1∉s.1∧kW W (nxt W s p.1 p.2) r
theorem kW.snoc{W:aS}{k:Int}{b:Bool}(hk:ix W k):∀{r:List (Int × Bool)} {s:Std},kW W s r→k∉(bg W s r).1→kW W s (r++[(k,b)])
  | [],s,_,h=>⟨hk,h,trivial⟩
  | p::r,s,h,n=>⟨h.1,h.2.1,kW.snoc hk h.2.2 n⟩
theorem kW.take{W:aS}:∀{r:List (Int × Bool)} {s:Std} (n:Nat),kW W s r→kW W s (r.take n)
  | _,_,0,_=>by rw [List.take_zero];trivial
  | [],_,n+1,h=>by rw [List.take_nil];exact h
  | p::r,_,n+1,h=>⟨h.1,h.2.1,kW.take n h.2.2⟩
theorem kW.st{W:aS}(ok:W.Ok):∀{r:List (Int × Bool)} {s:Std},iH W s→kW W s r→iH W (bg W s r)
  | [],_,h,_=>h
  | p::r,s,h,q=>kW.st (r:=r) (s:=nxt W s p.1 p.2) ok (h.nxt p.2 ok q.1 q.2.1) q.2.2
theorem yo{W:aS}:∀(r:List (Int × Bool)) (s:Std),(bg W s r).1.length=s.1.length+r.length
  | [],_=>rfl
  | p::r,s=>by
    show(bg W (nxt W s p.1 p.2) r).1.length=_
    rw [yo r]
    show(aS.askd s.1 p.1).length+r.length=_
    rw [pz,QD];lia
theorem kW.inw{W:aS}:∀{r:List (Int × Bool)} {s:Std},kW W s r→∀p∈r,ix W p.1
  | [],_,_,p,hp=>by cases hp
  | q::r,_,h,p,hp=>by
    rcases OP hp with rfl | hp
    · exact h.1
    · exact kW.inw h.2.2 p hp
theorem kW.len{W:aS}(ok:W.Ok){r:List (Int × Bool)}(h:kW W ([],[]) r):r.length≤16:=by
  have h1:=(h.st ok (iH.first W)).len
  rw [yo] at h1
  have:=ok.len
  simp at h1
  lia
theorem vK{W:aS}(ok:W.Ok){s:Std}(h:iH W s):s.1.length < 60∧s.2.length < 60:=by
  have:=h.len;have:=h.tk;have:=ok.len
  lia
theorem qq{W:aS}(ok:W.Ok){m:FM}(hm:∀(s:Std) (k:Int) (b:Bool),iH W s→ix W k→m [.d (au W),.d (c_ s.1 s.2),.d (.int k),.d (.bool b)]=some (.d (c_ (nxt W s k b).1 (nxt W s k b).2),[.d (au W),.d (c_ s.1 s.2),.d (.int k),.d (.bool b)])){own:jV}{x1:Option Sv}
    (kp:∀a c d,keeps own [some (.d (au W)),x1,a,c,d]):∀(r:List (Int × Bool)) (s:Std) (a b:Option Sv),iH W s→kW W s r→
    ∃a' b',kX own (cy (aL (aj 3) (aL (aj 4) bT))) (bx 2 (dX 4 m (aa (ab 0) (aa (ab 2) (aa (ab 3) (aa (ab 4) ah)))))) (r.map dR) [some (.d (au W)),x1,some (.d (c_ s.1 s.2)),a,b]=some (.nx [some (.d (au W)),x1,some (.d (c_ (bg W s r).1 (bg W s r).2)),a',b'])
  | [],s,a,b,_,_=>⟨a,b,rfl⟩
  | p::r,s,a,b,hs,hr=>by
    have h1:=hm s p.1 p.2 hs hr.1
    obtain⟨a',b',ih⟩:=qq ok hm kp r (nxt W s p.1 p.2) (some (.d (.int p.1))) (some (.d (.bool p.2))) (hs.nxt p.2 ok hr.1 hr.2.1) hr.2.2
    refine⟨a',b',?_⟩
    have k1:=kp (some (.d (c_ (nxt W s p.1 p.2).1 (nxt W s p.1 p.2).2))) (some (.d (.int p.1))) (some (.d (.bool p.2)))
    simp only [Pw,kX]
    generalize au W=w at*
    generalize c_ s.1 s.2=d at*
    generalize c_ (nxt W s p.1 p.2).1 (nxt W s p.1 p.2).2=d2 at*
    simp? [dR,h1,k1]
    exact ih
theorem ki{W:aS}(ok:W.Ok){r:List (Int × Bool)}(hr:kW W ([],[]) r):bN [.d (au W),.d (.tuple (r.map dR))]=some (.d (c_ (bg W ([],[]) r).1 (bg W ([],[]) r).2),[.d (au W),.d (.tuple (r.map dR))]):=by
  obtain⟨a,b,h⟩:=qq ok (m:=bM) (own:=[]) (x1:=some (.d (.tuple (r.map dR)))) (fun s k b hs hk=>qM b hk (vK ok hs).1 (vK ok hs).2) (fun _ _ _=>eg) r ([],[]) none none (iH.first W) hr
  have hf:∀Wl,iM Wl iX (cy (aL (aj 3) (aL (aj 4) bT))) iT [some (.d (au W)),some (.d (.tuple (r.map dR))),some (.d (c_ [] [])),none,none]=some (.nx [some (.d (au W)),some (.d (.tuple (r.map dR))),some (.d (c_ (bg W ([],[]) r).1 (bg W ([],[]) r).2)),a,b]):=fun Wl=>by
    exact(kP (pU rfl)).trans h
  generalize c_ (bg W ([],[]) r).1 (bg W ([],[]) r).2=D at*
  generalize au W=w at*
  generalize r.map dR=rs at*
  unfold c_ at hf
  simp only [Qc] at hf
  simp? [bN,jY,hf]
theorem jO{W:aS}(ok:W.Ok){r:List (Int × Bool)}(hr:kW W ([],[]) r):ie [.d (au W),.l (r.map dR)]=some (.d (c_ (bg W ([],[]) r).1 (bg W ([],[]) r).2),[.d (au W),.l (r.map dR)]):=by
  obtain⟨a,b,h⟩:=qq ok (m:=ic) (own:=[(1,r.map dR)]) (x1:=some (.l (r.map dR))) (fun s k b hs hk=>B0 b hk (vK ok hs).1 (vK ok hs).2) (fun _ _ _ p hp=>by rw [PJ] at hp;subst hp;rfl) r ([],[]) none none (iH.first W) hr
  have hf:iM [3,4,2] mj (cy (aL (aj 3) (aL (aj 4) bT))) lM [some (.d (au W)),some (.l (r.map dR)),some (.d (c_ [] [])),none,none]=some (.nx [some (.d (au W)),some (.l (r.map dR)),some (.d (c_ (bg W ([],[]) r).1 (bg W ([],[]) r).2)),a,b]):=by
    exact(BI (own:=[(1,r.map dR)]) rfl rfl).trans h
  generalize c_ (bg W ([],[]) r).1 (bg W ([],[]) r).2=D at*
  generalize au W=w at*
  generalize r.map dR=rs at*
  unfold c_ at hf
  simp only [Qc] at hf
  simp? [ie,pE,hf]
theorem jF{n:Int}(h0:0≤n)(h1:n < 1000000):(nS n).length≤6:=by
  obtain⟨m,rfl⟩:=Int.eq_ofNat_of_zero_le h0
  have h2:m < 10 ^ 6:=by lia
  have:=(Nat.length_toDigits_le_iff (b:=10) (n:=m) (k:=6) (by decide) (by decide)).mpr h2
  have e:nS (m:Int)=OX (String.ofList (Nat.toDigits 10 m)):=rfl
  have e2:(OX (String.ofList (Nat.toDigits 10 m))).length=(Nat.toDigits 10 m).length:=by
    rw [Str.ofString_eq_toList]
    simp [Str.length]
  rw [e,e2];exact this
theorem eZ{e:En}{i:Int}(h0:0≤i)(h1:i < 1000000):g1 eF e [.d (.int i)]=some (.d (.str (nS i))):=by
  simp only [g1,eF]
  have h2:i.natAbs.log2 < 1900:=by
    by_cases z:i.natAbs=0
    · rw [z];decide
    · exact(Nat.log2_lt z).mpr (Qa (show i.natAbs < 2 ^ 20 by lia) (SE (by decide) (by decide)))
  rw [if_pos h2];rfl
theorem Wd.intB{i:Int}(h0:0≤i)(h1:i < 1000000):Wd (.int i):=⟨fun e=>eZ h0 h1,by have:=jF h0 h1;show(nS i).length≤20;lia⟩
theorem BG{ds:List OT}(h:∀d∈ds,Wd d)(hl:ds.length≤60):∃t',iW (aj 0) kh (az (g1 eF) (aa (ab 0) ah)) ds [none] []=some ((ds.map wd).map .str,[t']):=by
  obtain⟨t',h3⟩:=eX (cs:=[]) (ft:=kh) (fe:=az (g1 eF) (aa (ab 0) ah)) (b:=fun _=>true) (y:=fun d=>.str (wd d)) ds none [] (fun _ _=>rfl) (fun x hx _=>by
    have:=(h x hx).go
    simp? [this]) (by simp;lia)
  refine⟨t',?_⟩
  rw [Sg]
  rw [List.filter_eq_self.mpr (fun _ _=>rfl)] at h3
  exact h3
theorem vA{ds:List OT}(h:∀d∈ds,Wd d)(hl:ds.length≤60)(e:En):nZ e (.d (.str (OX " "))) (.l ((ds.map wd).map .str))=some (.d (.str (PN (OX " ") (ds.map wd)))):=z8 (by decide) (by
  have:=L2.sum_le (ls:=ds.map wd) (k:=20) (fun x hx=>by obtain⟨d,hd,rfl⟩:=OO hx;exact(h d hd).ln)
  simp only [Px] at this ⊢
  have:=Nat.mul_le_mul_right 20 hl
  lia)
theorem D9{ds:List OT}(h:∀d∈ds,Wd d)(hl:ds.length≤60):d_ [.l ds]=some (.d (.str (PN (OX " ") (ds.map wd))),[.l ds]):=by
  obtain⟨t',h3⟩:=BG h hl
  have hc:cZ [] 1 ml (aj 0) kh lW [some (.l ds)]=some (.l ((ds.map wd).map .str),[some (.l ds)]):=sJ (own:=[(0,ds)]) rfl h3
  have hj:=fun e=>vA h hl e
  rw [Sg] at hc hj
  generalize PN (OX " ") (ds.map wd)=res at hj ⊢
  simp? [d_,pF,hc,hj]
noncomputable def cW(ks:List Int):Str:=if ks=[] then OX "none" else PN (OX " ") (ks.map nS)
theorem yw(ks:List Int):(ks.map PyData.int).map wd=ks.map nS:=by rw [Sg];rfl
theorem Wd.ints{ks:List Int}(h:∀k∈ks,0≤k∧k < 1000000):∀d∈ks.map PyData.int,Wd d:=fun d hd=>by
  obtain⟨k,hk,rfl⟩:=OO hd
  exact Wd.intB (h k hk).1 (h k hk).2
theorem z4{e:En}{xs:List OT}{neg:Bool}(hs:PH (.list xs)=true):bi neg e (.d (.list xs)) (.l [])=some (.d (.bool (if neg then !xs.isEmpty else xs.isEmpty))):=by
  unfold bi
  simp only [hU,Pn,hs]
  have h0:PH (.list [])=true:=by simp [PH,PM,Qp,Qj,QR]
  rw [h0]
  cases xs<;>simp [Qt,PyData.eqvAll]
theorem xm{ks:List Int}(h:∀k∈ks,0≤k∧k < 1000000)(hl:ks.length≤60):e6 [.d (.list (ks.map .int))]=some (.d (.str (cW ks)),[.d (.list (ks.map .int))]):=by
  unfold cW
  cases ks with
  | nil=>rfl
  | cons k r=>
    have h1:=Wd.ints h
    have hl':((k::r).map PyData.int).length≤60:=by simpa using hl
    obtain⟨t',h3⟩:=BG h1 hl'
    have hc:cZ [] 1 mi (aj 0) kh lV [some (.d (.list ((k::r).map .int)))]=some (.l ((((k::r).map .int).map wd).map .str),[some (.d (.list ((k::r).map .int)))]):=sJ (own:=[]) rfl h3
    have hj:=fun e=>vA h1 hl' e
    have ne:∀e,bi false e (.d (.list ((k::r).map .int))) (.l [])=some (.d (.bool false)):=fun e=>by
      have:=z4 (e:=e) (neg:=false) (kg (k::r)).1
      simpa using this
    rw [if_neg (by simp)]
    rw [yw] at hc hj
    generalize PN (OX " ") ((k::r).map nS)=res at hj ⊢
    generalize ((k::r).map nS).map PyData.str=A at hc hj
    generalize (k::r).map PyData.int=B at*
    simp? [e6,pC,ne,hc,hj]
theorem zi{W:aS}(ok:W.Ok){asked taken:List Int}(h:∀k∈asked,ix W k)(hl:asked.length≤1000):iZ [.d (au W),.d (c_ asked taken)]=some (.l ((W.can asked taken).map .int),[.d (au W),.d (c_ asked taken)]):=by
  let cs:En:=[some (.d (au W)),some (.d (c_ asked taken))]
  have wl:=ok.len
  have hc:∀x∈be 0 W.ties.length,fN (cs++[some (.d x)])=some (q_ (fun k=>W.may asked taken k) x,cs++[some (.d x)]):=fun x hx=>by
    obtain⟨i,hi⟩:=Sf hx
    obtain⟨rfl,hi⟩:=cc hi
    have:=sD ok (taken:=taken) h hl (k:=0+(i:Int)) ⟨by lia,by lia⟩
    simp only [Int.zero_add] at this
    simp? [q_,cs,fN,this]
  have he:∀x∈be 0 W.ties.length,q_ (fun k=>W.may asked taken k) x=true→fR (cs++[some (.d x)])=some (.d (id x),cs++[some (.d x)]):=fun x hx _=>by
    simp? [cs,fR]
  obtain⟨t',hf⟩:=eX (cs:=cs) (ft:=fN) (fe:=fR) (b:=q_ (fun k=>W.may asked taken k)) (y:=id) (be 0 W.ties.length) none [] hc he (by rw [fm];simp;lia)
  have hv:=mX (cp:=[(0,"web"),(1,"stand")]) (nT:=1) (fi:=j8) (g:=aj 2) (ft:=fN) (fe:=fR) (e:=[some (.d (au W)),some (.d (c_ asked taken))]) (cs:=cs) (t:=[none]) (t':=[t']) (show j8 [some (.d (au W)),some (.d (c_ asked taken))]=some (be 0 W.ties.length,[],[some (.d (au W)),some (.d (c_ asked taken))]) from cF (n:=(W.ties.length:Int)) (by rw [cJ];simp? [Pi]) (by lia) (by lia)) rfl rfl hf
  rw [Qz,List.map_id,nG] at hv
  simp only [iZ,rq,iO,jQ,aR,i8,br,cQ,bx,eQ,kY,oP,qj,aA,ay,uo,ab,vC,ek,ah,aa,cM,az,dX,lI,ul,lJ,xB,jf,um,mY,vV,gC,gb,ci,bH,mx,e_,gz,hR,cU,cK,pM,sE,cy,aL,aj,bT,bZ,aJ,bh,p6,dC,ez,cE,fC,gP,gN,gL,gK,eD,eA,eE,dg,eu,ma,gB,jx,md,jA,gO,jy,jz,eI,eH,dh,eJ,mf,jm,er,iI,iJ,lU,df,de,dH,gM,Pi, -Qc, -Pw, -Qz, -QF, -Pn, -Qe, -getElem?_pos, -Qo,l8,l7,lZ,lY,l5,l6,l4,l9]
  simp? [hv]
theorem sZ{W:aS}(ok:W.Ok){a b:List Int}:(∀k∈W.can a b,0≤k∧k < 1000000)∧(W.can a b).length≤60:=by
  have wl:=ok.len
  have hm:=nG (W:=W) (asked:=a) (taken:=b)
  refine⟨fun k hk=>?_,?_⟩
  · have h1:PyData.int k∈(W.can a b).map PyData.int:=Rt.mpr ⟨k,hk,rfl⟩
    rw [←hm] at h1
    obtain⟨i,hi⟩:=Sf (QJ.mp h1).1
    obtain⟨e,h2⟩:=cc hi
    have:=PyData.int.inj e
    lia
  · have h1:((W.can a b).map PyData.int).length≤(be 0 W.ties.length).length:=by rw [←hm];exact List.length_filter_le _ _
    rw [fm,Px] at h1
    lia
theorem xo{W:aS}(ok:W.Ok){r:List (Int × Bool)}(hr:kW W ([],[]) r):d9 [.d (au W),.d (.tuple (r.map dR))]=some (.d (.str (cW (W.can (bg W ([],[]) r).1 (bg W ([],[]) r).2))),[.d (au W),.d (.tuple (r.map dR))]):=by
  have st:=hr.st ok (iH.first W)
  have h1:=ki ok hr
  have h2:=zi ok (taken:=(bg W ([],[]) r).2) st.inw (by have:=(vK ok st).1;lia)
  obtain⟨c1,c2⟩:=sZ ok (a:=(bg W ([],[]) r).1) (b:=(bg W ([],[]) r).2)
  have h3:=D9 (Wd.ints c1) (by rw [Px];exact c2)
  rw [yw] at h3
  unfold cW
  generalize c_ (bg W ([],[]) r).1 (bg W ([],[]) r).2=D at*
  generalize W.can (bg W ([],[]) r).1 (bg W ([],[]) r).2=ks at*
  generalize au W=w at*
  generalize r.map dR=rs at*
  cases ks with
  | nil=>simp? [d9,lp,h1,h2]
  | cons k t=>
    have hl:¬((((k::t).map PyData.int).length:Int)≤0):=by simp
    rw [if_neg (by simp)]
    generalize PN (OX " ") ((k::t).map nS)=res at*
    generalize (k::t).map PyData.int=B at*
    have hl2:0 < B.length:=by lia
    simp? [d9,lp,h1,h2,h3,hl2]
theorem KG{k:Int}(h0:0≤k)(h1:k < 16):QG (Lk k) none (some 4)=OX "ask ":=nj (P:=fun k=>QG (Lk k) none (some 4)=OX "ask ") IG h0 h1
theorem KH{k:Int}(h0:0≤k)(h1:k < 16):QG (Lk k) (some 4) none=nS k:=nj (P:=fun k=>QG (Lk k) (some 4) none=nS k) IH h0 h1
theorem KI{k:Int}(h0:0≤k)(h1:k < 16):Qk (Lk k) (OX " ")=[OX "ask",nS k]:=nj (P:=fun k=>Qk (Lk k) (OX " ")=[OX "ask",nS k]) II h0 h1
theorem Gk{k:Int}(h0:0≤k)(h1:k < 16):Sk (nS k)=true∧(nS k).length≤4∧Sj (nS k)=some k:=nj (P:=fun k=>Sk (nS k)=true∧(nS k).length≤4∧Sj (nS k)=some k) IJ h0 h1
theorem KJ{k:Int}(h0:0≤k)(h1:k < 16):∀x∈["yes","no","may","kept","back","best","bound"],Lk k≠OX x:=nj (P:=fun k=>∀x∈["yes","no","may","kept","back","best","bound"],Lk k≠OX x) IK h0 h1
theorem Aq{k:Int}(h0:0≤k)(h1:k < 16):(Lk k).length≤10:=by
  have:=(Gk h0 h1).2.1
  unfold Lk
  rw [Hk]
  have:(OX "ask ").length=4:=by decide
  lia
theorem As(k:Int):Pv (Lk k)=true:=by
  unfold Lk
  exact kS (aB _) (p5 k)
theorem fD{e:En}{neg:Bool}{a b:Str}(ha:Pv a=true)(hb:Pv b=true):bi neg e (.d (.str a)) (.d (.str b))=some (.d (.bool (if neg then !decide (a=b) else decide (a=b)))):=by
  have e1:(a==b)=decide (a=b):=by by_cases c:a=b<;>simp [c]
  unfold bi
  simp [hU,PH,PM,Qj,Qt,ha,hb,e1]
theorem BS{W:aS}:PH (.tuple (W.ties.map b5))=true:=(Sh.tup (n:=6) fun d hd=>by
  obtain⟨t,_,rfl⟩:=OO hd
  exact Sh.tie).ok (by decide)
theorem vP{k:Int}(h0:0≤k)(h1:k < 16):f_ [.d (.str (nS k))]=some (.d (.int k),[.d (.str (nS k))]):=by
  obtain⟨a1,a2,a3⟩:=Gk h0 h1
  have s1:∀e:En,g1 m8 e [.d (.str (nS k))]=some (.d (.int (nS k).length)):=fun e=>by
    simp only [g1,m8,bP,Pn];rw [if_pos (by lia)]
  have s2:∀e:En,g1 jw e [.d (.str (nS k))]=some (.d (.int k)):=fun e=>by
    simp only [g1,jw,bP,Pn];rw [if_pos (by lia),a3];rfl
  have s3:∀e:En,tS e (.d (.str (nS k)))=some (.d (.bool true)):=fun e=>by
    simp only [tS,bP,Qe,a1]
  have s4:∀e:En,g1 eF e [.d (.int k)]=some (.d (.str (nS k))):=fun e=>eZ h0 (by lia)
  have s5:∀e:En,bi false e (.d (.str (nS k))) (.d (.str (nS k)))=some (.d (.bool true)):=fun e=>by
    rw [fD (p5 k) (p5 k)];simp
  have hl:¬(4:Int) < ((nS k).length:Int):=by lia
  generalize (nS k).length=L at*
  generalize nS k=x at*
  simp? [f_,nR,s1,s2,s3,s4,s5,hl]
theorem uO{e:En}{k:Int}:lx e (.d (.int k)) (.d .none)=some (.d (.bool true)):=rfl
theorem rN{e:En}:lx e (.d .none) (.d .none)=some (.d (.bool false)):=rfl
theorem z7{e:En}{k:Int}:HI e (.d (.int k)) (.d .none)=some (.d (.bool false)):=rfl
theorem FB{e:En}:HI e (.d .none) (.d .none)=some (.d (.bool true)):=rfl
theorem ug{W:aS}(ok:W.Ok){k:Int}(hk:ix W k):eK [.d (au W),.d (.str (Lk k))]=some (.d (.int k),[.d (au W),.d (.str (Lk k))]):=by
  obtain⟨h0,h1⟩:=id hk
  have wl:=ok.len
  have h1':k < 16:=by lia
  have a:=Aq h0 h1'
  have s0:∀e:En,fZ e (.d (.str (Lk k))) (.d (.str (OX " ")))=some (.l [.str (OX "ask"),.str (nS k)]):=fun e=>by
    simp only [fZ,bP,Pn]
    rw [if_pos ⟨by decide,by lia⟩,KI h0 h1'];rfl
  have n1:=vP h0 h1'
  have s5:∀e:En,bi true e (.d (.str (OX "ask"))) (.d (.str (OX "ask")))=some (.d (.bool false)):=fun e=>by
    rw [fD (aB _) (aB _)];simp
  have g1':∀e:En,dI e (.d (au W)) (.d (.int 1))=some (.d (.tuple (W.ties.map b5))):=fun e=>by rw [cJ,gB,er];rfl
  have hlt:k < ((W.ties.map b5).length:Int):=by simpa using h1
  generalize W.ties.map b5=TT at*
  generalize au W=w at*
  generalize Lk k=x at*
  generalize nS k=y at*
  simp? [eK,lN,s0,s5,n1,g1',uO,hlt]
inductive Ln (W:aS) (B:Prop):Str→Prop
  | ask {k:Int} (h:ix W k):Ln W B (Lk k)
  | yes:Ln W B (OX "yes")
  | no:Ln W B (OX "no")
  | back (h:B):Ln W B (OX "back")
theorem Ht{W:aS}(ok:W.Ok){ds:List Int}(hd:j0 ds){menu:List Str}(hm:∀x∈menu,x=OX "ask"∨x=OX "yes"∨x=OX "no"∨x=OX "back")(h0:0 < menu.length):∃x,Ln W (OX "back"∈menu) x∧ly [.l (ds.map .int),.d (au W),.d (.list (menu.map .str))]=some (.d (.str x),[.l (ds.tail.map .int),.d (au W),.d (.list (menu.map .str))]):=by
  have n1:=B2 ds
  obtain⟨a0,a1⟩:=AL hd
  have g1':∀e:En,dI e (.d (au W)) (.d (.int 1))=some (.d (.tuple (W.ties.map b5))):=fun e=>by rw [cJ,gB,er];rfl
  have pm:(0:Int) < (menu.length:Int):=by lia
  have m0:0≤nx ds % (menu.length:Int):=Sl _ (by lia)
  have m1:nx ds % (menu.length:Int) < (menu.length:Int):=Sm _ pm
  obtain⟨x,hx⟩:∃x,menu[(nx ds % (menu.length:Int)).toNat]?=some x:=⟨_,QA (by lia)⟩
  have hmx:=hm x (OQ hx)
  have gx:atI (menu.map PyData.str) (nx ds % (menu.length:Int))=some (.str x):=by
    rw [jn m0 (by simpa using m1),PF,hx];rfl
  have gm:∀e:En,bD e (.d (.int (nx ds))) (.d (.int (((menu.map PyData.str).length:Nat):Int)))=some (.d (.int (nx ds % (menu.length:Int)))):=fun e=>by
    rw [Px];exact ba pm
  have tk:=ok.len
  have key:∀y:Str,y≠OX "ask"→Pv y=true→∀e:En,bi true e (.d (.str y)) (.d (.str (OX "ask")))=some (.d (.bool true)):=fun y hy ho e=>by
    rw [fD ho (aB _)];simp [hy]
  by_cases hask:x=OX "ask"
  · subst hask
    have s5:∀e:En,bi true e (.d (.str (OX "ask"))) (.d (.str (OX "ask")))=some (.d (.bool false)):=fun e=>by
      rw [fD (aB _) (aB _)];simp
    have hsh:PH (.tuple (W.ties.map b5))=true:=BS
    have g2:∀e:En,bi false e (.d (.tuple (W.ties.map b5))) (.d (.tuple []))=some (.d (.bool (W.ties.map b5).isEmpty)):=fun e=>by
      have:=z5 (e:=e) (neg:=false) hsh
      simpa using this
    by_cases hn:W.ties.length=0
    · refine⟨_,.yes,?_⟩
      have he:(W.ties.map b5).isEmpty=true:=by simpa using Tj.mp hn
      rw [he] at g2
      generalize W.ties.map b5=TT at*
      generalize au W=w at*
      generalize menu.map PyData.str=MM at*
      generalize nx ds % (menu.length:Int)=q at*
      simp? [ly,sS,n1,g1',gm,gx,s5,g2]
    · have he:(W.ties.map b5).isEmpty=false:=by
        cases h:W.ties with
        | nil=>exact absurd (by rw [h];rfl) hn
        | cons a r=>rfl
      rw [he] at g2
      have pt:(0:Int) < (W.ties.length:Int):=by lia
      have q0:0≤nx ds / 64 % (W.ties.length:Int):=Sl _ (by lia)
      have q1:nx ds / 64 % (W.ties.length:Int) < (W.ties.length:Int):=Sm _ pt
      refine⟨_,.ask (k:=nx ds / 64 % (W.ties.length:Int)) ⟨q0,by lia⟩,?_⟩
      have gd:∀e:En,hV e (.d (.int (nx ds))) (.d (.int 64))=some (.d (.int (nx ds / 64))):=fun e=>gW (by decide) (m4 (by decide) (by decide))
      have gm2:∀e:En,bD e (.d (.int (nx ds / 64))) (.d (.int (((W.ties.map b5).length:Nat):Int)))=some (.d (.int (nx ds / 64 % (W.ties.length:Int)))):=fun e=>by
        rw [Px];exact ba pt
      generalize nx ds / 64 % (W.ties.length:Int)=k at*
      have s4:∀e:En,g1 eF e [.d (.int k)]=some (.d (.str (nS k))):=fun e=>eZ q0 (by lia)
      have s6:∀e:En,fV e (.d (.str (OX "ask "))) (.d (.str (nS k)))=some (.d (.str (Lk k))):=fun e=>oZ (by
        have:=jF q0 (by lia)
        have:(OX "ask ").length=4:=by decide
        lia)
      generalize Lk k=lk at*
      generalize nS k=y at*
      generalize W.ties.map b5=TT at*
      generalize au W=w at*
      generalize menu.map PyData.str=MM at*
      generalize nx ds % (menu.length:Int)=q at*
      simp? [ly,sS,n1,g1',gm,gx,s5,g2,gd,gm2,s4,s6]
  · have hx':Ln W (OX "back"∈menu) x∧Pv x=true:=by
      rcases hmx with rfl | rfl | rfl | rfl
      · exact absurd rfl hask
      · exact⟨.yes,aB _⟩
      · exact⟨.no,aB _⟩
      · exact⟨.back (OQ hx),aB _⟩
    refine⟨x,hx'.1,?_⟩
    have s5:=key x hask hx'.2
    generalize au W=w at*
    generalize menu.map PyData.str=MM at*
    generalize nx ds % (menu.length:Int)=q at*
    simp? [ly,sS,n1,gm,gx,s5]
def oL(o:Option Int):List OT:=o.toList.map .int
theorem BW:∀{a b:String},OX a≠OX b→∀(e:En) (neg:Bool),bi neg e (.d (.str (OX a))) (.d (.str (OX b)))=some (.d (.bool neg)):=fun{a b} h e neg=>by
  rw [fD (aB _) (aB _)]
  simp [h]
theorem Hq(a:String)(e:En)(neg:Bool):bi neg e (.d (.str (OX a))) (.d (.str (OX a)))=some (.d (.bool !neg)):=by
  rw [fD (aB _) (aB _)]
  simp
theorem uS(sep:Str)(hs:sep.length=1):∀(xs:List Str) (k:Nat),(∀x∈xs,x.length≤k)→(PN sep xs).length≤xs.length*(k+1)
  | [],_,_=>by show(QV).length≤_;exact QP _
  | [x],k,h=>by show x.length≤_;have:=h x (by simp);simp;lia
  | x::y::r,k,h=>by
    have ih:=uS sep hs (y::r) k fun z hz=>h z (PP _ hz)
    have:=h x (by simp)
    show(x++sep++PN sep (y::r)).length≤_
    rw [Hk,Hk,hs,QD,Nat.succ_mul]
    lia
theorem BF{ks:List Int}(h:∀k∈ks,0≤k∧k < 1000000)(hl:ks.length≤60):(cW ks).length≤1000:=by
  unfold cW
  split
  · decide
  · have:=uS (OX " ") (by decide) (ks.map nS) 6 fun x hx=>by
      obtain⟨k,hk,rfl⟩:=OO hx
      exact jF (h k hk).1 (h k hk).2
    rw [Px] at this
    lia
theorem AH{x0 x1 x2 x3 a b:Option Sv}{ws:List OT}(hs:PH (.list ws)=true)(neg:Bool):bi neg [x0,x1,x2,x3,some (.l ws),a,b] (.s 4) (.l [])=some (.d (.bool (if neg then !ws.isEmpty else ws.isEmpty))):=uM rfl hs
theorem nB(o:Option Int):PH (.list (oL o))=true:=(kg o.toList).1
theorem zm{W:aS}(ok:W.Ok){r:List (Int × Bool)}{o:Option Int}{k:Int}(hr:kW W ([],[]) r)(hk:ix W k)(g:Bool)(hg:g=(o.isNone&&W.may (bg W ([],[]) r).1 (bg W ([],[]) r).2 k)):cO ([some (.d (au W)),none,some (.d (.str (Lk k)))],[(.s 1,.st (r.map dR) (oL o))])=some (.str (if g=true then OX "asked" else OX "NoAsk"),[(.s 1,.st (r.map dR) (oL (if g=true then some k else o)))]):=by
  obtain⟨k0,k1⟩:=id hk
  have wl:=ok.len
  have k1':k < 16:=by lia
  have st:=hr.st ok (iH.first W)
  have h1:=jO ok hr
  have h2:=E6 ok (taken:=(bg W ([],[]) r).2) st.inw (by have:=(vK ok st).1;lia) hk
  have s1:=KG k0 k1'
  have s2:=KH k0 k1'
  have sl:(Lk k).length≤1000000:=by have:=Aq k0 k1';lia
  obtain⟨a1,a2,a3⟩:=Gk k0 k1'
  have i1:∀e:En,g1 jw e [.d (.str (nS k))]=some (.d (.int k)):=fun e=>by
    simp only [g1,jw,bP,Pn];rw [if_pos (by lia),a3];rfl
  have q1:=Hq "ask "
  have n1:=fun x0 x1 x2 x3 a b neg=>AH (x0:=x0) (x1:=x1) (x2:=x2) (x3:=x3) (a:=a) (b:=b) (nB o) neg
  generalize W.may (bg W ([],[]) r).1 (bg W ([],[]) r).2 k=mb at*
  generalize c_ (bg W ([],[]) r).1 (bg W ([],[]) r).2=D at*
  generalize r.map dR=rs at*
  generalize au W=w at*
  generalize Lk k=x at*
  generalize nS k=y at*
  cases o with
  | some j=>
    subst hg
    have n2:∀x0 x1 x2 x3 a b,bi true [x0,x1,x2,x3,some (.l (oL (some j))),a,b] (.s 4) (.l [])=some (.d (.bool true)):=fun x0 x1 x2 x3 a b=>by
      rw [n1];rfl
    generalize he:oL (some j)=ws at*
    simp? [cO,dZ,jp,qz,iP,okO,Lc.slot,oS,bP,s1,s2,sl,q1,h1,i1,n2]
    exact he.symm
  | none=>
    have n2:∀x0 x1 x2 x3 a b,bi true [x0,x1,x2,x3,some (.l []),a,b] (.s 4) (.l [])=some (.d (.bool false)):=fun x0 x1 x2 x3 a b=>by
      have:=n1 x0 x1 x2 x3 a b true
      exact this
    have e0:oL none=[]:=rfl
    have e1:oL (some k)=[.int k]:=rfl
    cases mb with
    | true=>
      subst hg
      simp? [cO,dZ,jp,qz,iP,okO,Lc.slot,oS,bP,e0,e1,s1,s2,sl,q1,h1,h2,i1,n2]
    | false=>
      subst hg
      simp? [cO,dZ,jp,qz,iP,okO,Lc.slot,oS,bP,e0,s1,s2,sl,q1,h1,h2,i1,n2]
noncomputable def wb(W:aS)(k:Int)(b:Bool):Str:=if b=true then OX "kept "++nS (W.tie k).worth else OX "gone"
noncomputable def B'(b:Bool):Str:=if b=true then OX "yes" else OX "no"
theorem xn{W:aS}(ok:W.Ok){r:List (Int × Bool)}(hr:kW W ([],[]) r)(b:Bool):cO ([some (.d (au W)),none,some (.d (.str (B' b)))],[(.s 1,.st (r.map dR) [])])=some (.str (OX "NoAsk"),[(.s 1,.st (r.map dR) [])]):=by
  have h1:=jO ok hr
  have n2:∀x0 x1 x2 x3 a b,bi false [x0,x1,x2,x3,some (.l []),a,b] (.s 4) (.l [])=some (.d (.bool true)):=fun x0 x1 x2 x3 a b=>AH (ws:=[]) (nB none) false
  generalize c_ (bg W ([],[]) r).1 (bg W ([],[]) r).2=D at*
  generalize r.map dR=rs at*
  generalize au W=w at*
  cases b with
  | true=>
    have s1:QG (OX "yes") none (some 4)=OX "yes":=by decide+kernel
    have sl:(OX "yes").length≤1000000:=by decide
    have q1:=BW (a:="yes") (b:="ask ") (by decide+kernel)
    have q2:=Hq "yes"
    have e0:B' true=OX "yes":=rfl
    simp? [cO,dZ,jp,qz,iP,okO,Lc.slot,oS,bP,e0,s1,sl,q1,q2,h1,n2]
  | false=>
    have s1:QG (OX "no") none (some 4)=OX "no":=by decide+kernel
    have sl:(OX "no").length≤1000000:=by decide
    have q1:=BW (a:="no") (b:="ask ") (by decide+kernel)
    have q3:=BW (a:="no") (b:="yes") (by decide+kernel)
    have q2:=Hq "no"
    have e0:B' false=OX "no":=rfl
    simp? [cO,dZ,jp,qz,iP,okO,Lc.slot,oS,bP,e0,s1,sl,q1,q2,q3,h1,n2]
theorem zl{W:aS}(ok:W.Ok){r:List (Int × Bool)}(hr:kW W ([],[]) r){k:Int}(hk:ix W k)(b:Bool):cO ([some (.d (au W)),none,some (.d (.str (B' b)))],[(.s 1,.st (r.map dR) [.int k])])=some (.str (wb W k b),[(.s 1,.st ((r++[(k,b)]).map dR) [])]):=by
  have h1:=jO ok hr
  have hl:=hr.len ok
  have o:=hk.ok ok
  have n2:∀x0 x1 x2 x3 a b,bi false [x0,x1,x2,x3,some (.l [.int k]),a,b] (.s 4) (.l [])=some (.d (.bool false)):=fun x0 x1 x2 x3 a b=>AH (ws:=[.int k]) (nB (some k)) false
  have g1':∀e:En,dI e (.d (au W)) (.d (.int 1))=some (.d (.tuple (W.ties.map b5))):=fun e=>by rw [cJ,gB,er];rfl
  have ai:=iQ (W:=W) (k:=k) hk
  have s4:∀e:En,g1 eF e [.d (.int (W.tie k).worth)]=some (.d (.str (nS (W.tie k).worth))):=fun e=>eZ o.w0 (by have:=o.w1;lia)
  have s6:∀e:En,fV e (.d (.str (OX "kept "))) (.d (.str (nS (W.tie k).worth)))=some (.d (.str (OX "kept "++nS (W.tie k).worth))):=fun e=>oZ (by
    have:=jF o.w0 (by have:=o.w1;lia:(W.tie k).worth < 1000000)
    have:(OX "kept ").length=5:=by decide
    lia)
  have hlr:(r.map dR).length < 1000000:=by rw [Px];lia
  have e1:(r++[(k,b)]).map dR=r.map dR++[dR (k,b)]:=by simp
  rw [e1]
  unfold wb
  unfold b5 at ai g1'
  generalize OX "kept "++nS (W.tie k).worth=RS at*
  generalize nS (W.tie k).worth=y at*
  generalize (W.tie k).worth=wt at*
  generalize (W.ties.map fun t=>PyData.tuple [.int t.one,.int t.other,.tuple [.int t.top,.int t.bot],.int t.worth])=TT at*
  generalize c_ (bg W ([],[]) r).1 (bg W ([],[]) r).2=D at*
  generalize r.map dR=rs at*
  generalize au W=w at*
  cases b with
  | true=>
    have s1:QG (OX "yes") none (some 4)=OX "yes":=by decide+kernel
    have sl:(OX "yes").length≤1000000:=by decide
    have q1:=BW (a:="yes") (b:="ask ") (by decide+kernel)
    have q2:=Hq "yes"
    have e0:B' true=OX "yes":=rfl
    simp? [cO,dZ,jp,qz,iP,okO,Lc.slot,oS,bP,e0,s1,sl,q1,q2,h1,n2,hlr,g1',ai,s4,s6,dR]
  | false=>
    have s1:QG (OX "no") none (some 4)=OX "no":=by decide+kernel
    have sl:(OX "no").length≤1000000:=by decide
    have q1:=BW (a:="no") (b:="ask ") (by decide+kernel)
    have q3:=BW (a:="no") (b:="yes") (by decide+kernel)
    have q2:=Hq "no"
    have e0:B' false=OX "no":=rfl
    simp? [cO,dZ,jp,qz,iP,okO,Lc.slot,oS,bP,e0,s1,sl,q1,q2,q3,h1,n2,hlr,g1',ai,s4,s6,dR]
def uq(a b c:OT):List (Str × OT):=[("web",a),("run",b),("waiting",c)]
theorem pK(a b c:OT):(uq a b c).lookup ("web":Str)=some a:=rfl
theorem pJ(a b c:OT):(uq a b c).lookup ("run":Str)=some b:=rfl
theorem rH(a b c:OT):(uq a b c).lookup ("waiting":Str)=some c:=rfl
theorem Fv(a b c:OT):(uq a b c).lookup ("say":Str)=none:=rfl
theorem Fw(a b c:OT):(uq a b c).lookup ("take_ask":Str)=none:=rfl
theorem zU(a b c:OT):(uq a b c).lookup ("take_answer":Str)=none:=rfl
theorem uJ(a b c:OT):(uq a b c).length < 900:=show 3 < 900 by decide
theorem zV(a b c x:OT):mH "run" x (uq a b c)=uq a x c:=rfl
theorem pI(a b c x:OT):mH "waiting" x (uq a b c)=uq a b x:=rfl
theorem cu(c:Lc)(o:Ob)(r:jk):PU c ((c,o)::r)=some o:=by rw [PX];simp
theorem gr(c:Lc)(o o':Ob):qH c o' [(c,o)]=[(c,o')]:=by simp [qH]
def wO(o:Option Int):OT:=o.elim .none .int
def cj(W:aS)(r:List (Int × Bool))(o:Option Int):Ob:=.dk (uq (au W) (.tuple (r.map dR)) (wO o))
theorem xX(w:OT):a9 ([none,some (.d w)],[(.s 0,.dk [])])=some (.none,[(.s 0,.dk (uq w (.tuple []) .none))]):=by
  have p1:mH "waiting" .none (mH "run" (.tuple []) (mH "web" w []))=uq w (.tuple []) .none:=rfl
  have q1:(mH "web" w []).length < 900:=show 1 < 900 by decide
  have q2:(mH "run" (.tuple []) (mH "web" w [])).length < 900:=show 2 < 900 by decide
  simp? [a9,dZ,iV,aZ,gD,ar,iP,okO,Lc.slot,cu,gr,p1,q1,q2]
theorem wx{W:aS}(ok:W.Ok){r:List (Int × Bool)}{o:Option Int}{k:Int}(hr:kW W ([],[]) r)(hk:ix W k)(g:Bool)(hg:g=(o.isNone&&W.may (bg W ([],[]) r).1 (bg W ([],[]) r).2 k)):bj ([none,some (.d (.int k))],[(.s 0,cj W r o)])=some (.str (if g=true then OX "asked" else OX "NoAsk"),[(.s 0,cj W r (if g=true then some k else o))]):=by
  have st:=hr.st ok (iH.first W)
  have h1:=ki ok hr
  have h2:=sD ok (taken:=(bg W ([],[]) r).2) st.inw (by have:=(vK ok st).1;lia) hk
  unfold cj
  generalize W.may (bg W ([],[]) r).1 (bg W ([],[]) r).2 k=mb at*
  generalize c_ (bg W ([],[]) r).1 (bg W ([],[]) r).2=D at*
  generalize r.map dR=rs at*
  generalize au W=w at*
  cases o with
  | some j=>
    subst hg
    simp? [bj,dZ,dc,aZ,ed,bO,cg,gD,rf,jh,bR,ji,oR,ce,jg,cf,ar,iP,okO,Lc.slot,cu,gr,pK,pJ,rH,uJ,pI,wO,L2.boolD,uO,h1,h2]
  | none=>
    cases mb with
    | true=>
      subst hg
      simp? [bj,dZ,dc,aZ,ed,bO,cg,gD,rf,jh,bR,ji,oR,ce,jg,cf,ar,iP,okO,Lc.slot,cu,gr,pK,pJ,rH,uJ,pI,wO,L2.boolD,rN,h1,h2]
    | false=>
      subst hg
      simp? [bj,dZ,dc,aZ,ed,bO,cg,gD,rf,jh,bR,ji,oR,ce,jg,cf,ar,iP,okO,Lc.slot,cu,gr,pK,pJ,rH,uJ,pI,wO,L2.boolD,rN,h1,h2]
theorem CC{W:aS}{r:List (Int × Bool)}(b:Bool):aT ([none,some (.d (.bool b))],[(.s 0,cj W r none)])=some (.str (OX "NoAsk"),[(.s 0,cj W r none)]):=by
  unfold cj
  simp? [aT,dZ,ck,aZ,ed,bO,cg,bR,ji,cf,ar,iP,okO,Lc.slot,cu,rH,wO,L2.boolD,FB]
theorem zT{W:aS}(ok:W.Ok){r:List (Int × Bool)}{k:Int}(hl:r.length≤16)(hk:ix W k)(b:Bool):aT ([none,some (.d (.bool b))],[(.s 0,cj W r (some k))])=some (.str (wb W k b),[(.s 0,cj W (r++[(k,b)]) none)]):=by
  have o:=hk.ok ok
  have g1':∀e:En,dI e (.d (au W)) (.d (.int 1))=some (.d (.tuple (W.ties.map b5))):=fun e=>by rw [cJ,gB,er];rfl
  have ai:=iQ (W:=W) (k:=k) hk
  have e1:(r++[(k,b)]).map dR=r.map dR++[dR (k,b)]:=by simp
  have n1:(W.tie k).worth.natAbs.log2 < 1900:=by
    have:=o.w0;have:=o.w1
    have:=Nat.log2_le_self (W.tie k).worth.natAbs
    lia
  have n2:(nS (W.tie k).worth).length≤1000:=PK (jF o.w0 (by have:=o.w1;lia)) (by decide)
  have n3:OX (W.tie k).worth.repr=nS (W.tie k).worth:=rfl
  have n4:∀y:Str,QV++y=y:=fun y=>by
    obtain⟨c⟩:=y
    show(⟨#[]++c⟩:Str)=⟨c⟩
    rw [Array.empty_append]
  have n6:∀(e:En) (d:OT),cV e (.d (.tuple (r.map dR))) (.d (.tuple [d]))=some (.d (.tuple (r.map dR++[d]))):=fun e d=>by
    have h1:xQ e (.d (.tuple (r.map dR))) (.d (.tuple [d]))=none:=rfl
    have h2:pO e (.d (.tuple (r.map dR))) (.d (.tuple [d]))=some (.d (.tuple (r.map dR++[d]))):=by
      have:(r.map dR).length+[d].length≤1000000:=by rw [Px,List.length_singleton];lia
      unfold pO
      simp only [eU]
      rw [if_pos this]
    rw [show cV e (.d (.tuple (r.map dR))) (.d (.tuple [d]))=(xQ e (.d (.tuple (r.map dR))) (.d (.tuple [d]))).or ((pO e (.d (.tuple (r.map dR))) (.d (.tuple [d]))).or (xR e (.d (.tuple (r.map dR))) (.d (.tuple [d])))) from rfl,h1,h2]
    rfl
  have n5:("kept ":Str).length≤1000:=by decide
  unfold cj
  rw [e1]
  unfold wb
  unfold b5 at ai g1'
  generalize (W.ties.map fun t=>PyData.tuple [.int t.one,.int t.other,.tuple [.int t.top,.int t.bot],.int t.worth])=TT at*
  generalize r.map dR=rs at*
  generalize au W=w at*
  cases b with
  | true=>simp? [aT,dZ,ck,aZ,ed,bO,cg,gE,gD,bR,ji,xC,B8,cf,ar,dM,iP,okO,Lc.slot,cu,gr,pK,pJ,rH,uJ,pI,zV,wO,L2.boolD,z7,g1',ai,n1,n2,n3,n4,n5,n6,dR]
  | false=>simp? [aT,dZ,ck,aZ,ed,bO,cg,gE,gD,bR,ji,xC,B8,cf,ar,dM,iP,okO,Lc.slot,cu,gr,pK,pJ,rH,uJ,pI,zV,wO,L2.boolD,z7,g1',ai,n6,dR]
theorem tG{e:En}{x a b:Str}(hx:Pv x=true)(ha:Pv a=true)(hb:Pv b=true):tF false e (.d (.str x)) (.d (.tuple [.str a,.str b]))=some (.d (.bool (decide (a=x) || decide (b=x)))):=by
  have v:∀y:Str,Qt (.str y) (.str x)=decide (y=x):=fun y=>by
    show(y==x)=decide (y=x)
    by_cases c:y=x<;>simp [c]
  unfold tF
  simp only [hU,eU,Pn]
  rw [if_pos (by simp [PM,Qp,Qj,hx,ha,hb])]
  rw [if_neg (by decide),SO,SO,List.any_nil,v,v,Bool.or_false]
theorem uQ{e:En}{x:Str}:yL "str" e (.d (.str x))=some (.d (.bool true)):=rfl
theorem xh{W:aS}{r:List (Int × Bool)}{o:Option Int}{t:Str}{r':List (Int × Bool)}{o':Option Int}(b:Bool)(h:aT ([none,some (.d (.bool b))],[(.s 0,cj W r o)])=some (.str t,[(.s 0,cj W r' o')])):aN ([none,some (.d (.str (B' b)))],[(.s 0,cj W r o)])=some (.str t,[(.s 0,cj W r' o')]):=by
  unfold cj at*
  cases b with
  | true=>
    have q1:=fun e=>tG (e:=e) (x:=OX "yes") (a:=OX "yes") (b:=OX "no") (aB _) (aB _) (aB _)
    have q2:=Hq "yes"
    have e0:B' true=OX "yes":=rfl
    simp? [aN,dZ,fK,aZ,ed,bO,cg,bu,km,bv,bY,mz,ku,iU,L2.locs,ar,dM,iP,okO,Lc.slot,cu,gr,zU,e0,q1,q2,uQ,h]
  | false=>
    have q1:=fun e=>tG (e:=e) (x:=OX "no") (a:=OX "yes") (b:=OX "no") (aB _) (aB _) (aB _)
    have q2:=BW (a:="no") (b:="yes") (by decide+kernel)
    have e0:B' false=OX "no":=rfl
    simp? [aN,dZ,fK,aZ,ed,bO,cg,bu,km,bv,bY,mz,ku,iU,L2.locs,ar,dM,iP,okO,Lc.slot,cu,gr,zU,e0,q1,q2,uQ,h]
theorem ue{W:aS}(ok:W.Ok){r:List (Int × Bool)}{o:Option Int}{k:Int}(hk:ix W k){t:Str}{o':Option Int}(h:bj ([none,some (.d (.int k))],[(.s 0,cj W r o)])=some (.str t,[(.s 0,cj W r o')])):aN ([none,some (.d (.str (Lk k)))],[(.s 0,cj W r o)])=some (.str t,[(.s 0,cj W r o')]):=by
  obtain⟨k0,k1⟩:=id hk
  have wl:=ok.len
  have k1':k < 16:=by lia
  have n5:=KJ k0 k1'
  have q1:=fun e=>tG (e:=e) (x:=Lk k) (a:=OX "yes") (b:=OX "no") (As k) (aB _) (aB _)
  have q2:=fun e neg=>fD (e:=e) (neg:=neg) (a:=Lk k) (b:=OX "back") (As k) (aB _)
  have d0:(Lk k=OX "back")=False:=eq_false (n5 "back" (by decide))
  have d1:(OX "yes"=Lk k)=False:=eq_false fun z=>n5 "yes" (by decide) z.symm
  have d2:(OX "no"=Lk k)=False:=eq_false fun z=>n5 "no" (by decide) z.symm
  have q3:(Jg.any fun x=>Lk k==x)=false:=by
    have e:∀{s:String},s∈["yes","no","may","kept","back","best","bound"]→(Lk k==OX s)=false:=fun{s} hs=>beq_eq_false_iff_ne.mpr (n5 s hs)
    show(Lk k==OX "may" || (Lk k==OX "best" || (Lk k==OX "bound" || (Lk k==OX "kept" || false))))=false
    rw [e (by decide),e (by decide),e (by decide),e (by decide)]
    rfl
  have h2:=ug ok hk
  unfold cj at*
  generalize Lk k=x at*
  simp? [aN,dZ,fK,aZ,ed,bO,cg,gE,xC,BY,oR,ce,jg,cf,bP,bu,km,bv,bY,mz,ku,iU,L2.locs,ar,dM,iP,okO,Lc.slot,cu,gr,pK,pJ,Fw,q1,q2,q3,d0,d1,d2,uQ,z7,h2,h]
theorem uh{x t:Str}{ob ob':Ob}(hx:Pv t=true)(h:aN ([none,some (.d (.str x))],[(.s 0,ob)])=some (.str t,[(.s 0,ob')])){fs:List (Str × OT)}(hb:ob=.dk fs)(hm:fs.lookup ("say":Str)=none):fJ ([none,some (.d (.str x)),some (.d (.str t))],[(.s 0,ob)])=some (.bool true,[(.s 0,ob')]):=by
  subst hb
  have q:=fun e neg=>fD (e:=e) (neg:=neg) (a:=t) (b:=t) hx hx
  simp? [fJ,dZ,xK,aZ,gE,bO,bu,km,bv,bY,mz,ku,iU,L2.locs,ar,dM,iP,okO,Lc.slot,cu,gr,hm,h,q,uQ]
theorem zo{W:aS}(ok:W.Ok){r:List (Int × Bool)}{o:Option Int}(hr:kW W ([],[]) r):cO ([some (.d (au W)),none,some (.d (.str (OX "may")))],[(.s 1,.st (r.map dR) (oL o))])=some (.str (cW (W.can (bg W ([],[]) r).1 (bg W ([],[]) r).2)),[(.s 1,.st (r.map dR) (oL o))]):=by
  have st:=hr.st ok (iH.first W)
  have h1:=jO ok hr
  have h3:=zh ok (taken:=(bg W ([],[]) r).2) st.inw (by have:=(vK ok st).1;lia)
  obtain⟨c1,c2⟩:=sZ ok (a:=(bg W ([],[]) r).1) (b:=(bg W ([],[]) r).2)
  have h2:=xm c1 c2
  have s1:QG (OX "may") none (some 4)=OX "may":=by decide+kernel
  have sl:(OX "may").length≤1000000:=by decide
  have q1:=BW (a:="may") (b:="ask ") (by decide+kernel)
  have q2:=BW (a:="may") (b:="yes") (by decide+kernel)
  have q3:=BW (a:="may") (b:="no") (by decide+kernel)
  have q4:=Hq "may"
  generalize cW (W.can (bg W ([],[]) r).1 (bg W ([],[]) r).2)=RES at*
  generalize (W.can (bg W ([],[]) r).1 (bg W ([],[]) r).2).map PyData.int=KS at*
  generalize c_ (bg W ([],[]) r).1 (bg W ([],[]) r).2=D at*
  generalize r.map dR=rs at*
  generalize oL o=ws at*
  generalize au W=w at*
  simp? [cO,dZ,jp,qz,iP,okO,Lc.slot,oS,bP,s1,sl,q1,q2,q3,q4,h1,h2,h3]
theorem DT{W:aS}(ok:W.Ok){r:List (Int × Bool)}{o:Option Int}(hr:kW W ([],[]) r):aN ([none,some (.d (.str (OX "may")))],[(.s 0,cj W r o)])=some (.str (cW (W.can (bg W ([],[]) r).1 (bg W ([],[]) r).2)),[(.s 0,cj W r o)]):=by
  have q1:=fun e=>tG (e:=e) (x:=OX "may") (a:=OX "yes") (b:=OX "no") (aB _) (aB _) (aB _)
  have q2:=BW (a:="may") (b:="back") (by decide+kernel)
  have d1:(OX "yes"=OX "may")=False:=eq_false (by decide+kernel)
  have d2:(OX "no"=OX "may")=False:=eq_false (by decide+kernel)
  have q3:(Jg.any fun k=>OX "may"==k)=true:=by decide+kernel
  have q4:qs.lookup (OX "may")=some d9:=by
    unfold qs
    rw [PX,show(OX "may"==("may":Str))=true from by decide+kernel]
  have h:=xo ok hr
  unfold cj at*
  generalize cW (W.can (bg W ([],[]) r).1 (bg W ([],[]) r).2)=RES at*
  simp? [aN,dZ,fK,aZ,ed,bO,cg,BY,yg,oR,ce,jg,cf,bP,bu,km,bv,bY,mz,ku,iU,L2.locs,ar,dM,iP,okO,Lc.slot,cu,gr,pK,pJ,q1,q2,q3,q4,d1,d2,uQ,h]
theorem rJ{c:Nat}:∀{a b A B:List Nat},c∉a→c∉b→a++c::A=b++c::B→a=b∧A=B
  | [],[],_,_,_,_,h=>by simpa using h
  | [],y::b,_,_,_,hb,h=>by
    simp only [Qz,QF,Tw] at h
    exact absurd (by simp [h.1]) hb
  | x::a,[],_,_,ha,_,h=>by
    simp only [Qz,QF,Tw] at h
    exact absurd (by simp [h.1]) ha
  | x::a,y::b,_,_,ha,hb,h=>by
    simp only [QF,Tw] at h
    obtain⟨e,f⟩:=rJ (fun z=>ha (PP _ z)) (fun z=>hb (PP _ z)) h.2
    exact⟨by rw [h.1,e],f⟩
theorem pY{c:Nat}(y z:Str)(r:List Str):(PN ⟨#[c]⟩ (y::z::r)).cps.toList=y.cps.toList++c::(PN ⟨#[c]⟩ (z::r)).cps.toList:=by
  show(y++⟨#[c]⟩++PN ⟨#[c]⟩ (z::r)).cps.toList=_
  simp only [Str.cps_append,Array.toList_append]
  simp
theorem uR{c:Nat}:∀{ys zs:List Str},ys≠[]→zs≠[]→(∀p∈ys,c∉p.cps.toList)→(∀p∈zs,c∉p.cps.toList)→(PN ⟨#[c]⟩ ys).cps.toList=(PN ⟨#[c]⟩ zs).cps.toList→ys=zs
  | [],_,h,_,_,_,_=>absurd rfl h
  | _,[],_,h,_,_,_=>absurd rfl h
  | [y],[z],_,_,_,_,h=>by
    have:y.cps.toList=z.cps.toList:=h
    rw [Str.ext' (Array.toList_inj.mp this)]
  | [y],z::z'::s,_,_,hy,_,h=>by
    rw [pY] at h
    have:y.cps.toList=_:=h
    exact absurd (by rw [this];simp) (hy y (by simp))
  | y::y'::r,[z],_,_,_,hz,h=>by
    rw [pY] at h
    have:_=z.cps.toList:=h
    exact absurd (by rw [←this];simp) (hz z (by simp))
  | y::y'::r,z::z'::s,_,_,hy,hz,h=>by
    rw [pY,pY] at h
    obtain⟨e,f⟩:=rJ (hy y (by simp)) (hz z (by simp)) h
    have:=uR (by simp) (by simp) (fun p hp=>hy p (PP _ hp)) (fun p hp=>hz p (PP _ hp)) f
    rw [this,Str.ext' (Array.toList_inj.mp e)]
theorem xl{c:Nat}{ys:List Str}(h0:ys≠[])(hy:∀p∈ys,c∉p.cps.toList)(hne:(PN ⟨#[c]⟩ ys).cps.toList≠[]):Qk (PN ⟨#[c]⟩ ys) ⟨#[c]⟩=ys:=by
  have h:=StrLaws.join_split (PN ⟨#[c]⟩ ys) ⟨#[c]⟩
  refine uR (fun z=>?_) h0 (fun p hp=>StrLaws.split_free _ c p hp) hy (by rw [h])
  rw [z] at h
  rw [←h] at hne
  exact hne rfl
theorem IR:∀k:Fin 16,32∉(nS (k.val:Int)).cps.toList∧(nS (k.val:Int)).cps.toList≠[]∧nS (k.val:Int)≠OX "none":=by decide+kernel
theorem Gw{k:Int}(h0:0≤k)(h1:k < 16):32∉(nS k).cps.toList∧(nS k).cps.toList≠[]∧nS k≠OX "none":=nj (P:=fun k=>32∉(nS k).cps.toList∧(nS k).cps.toList≠[]∧nS k≠OX "none") IR h0 h1
theorem AD:∀k j:Fin 16,nS (k.val:Int)=nS (j.val:Int)→k=j:=by decide+kernel
theorem Gx{k j:Int}(h0:0≤k)(h1:k < 16)(h2:0≤j)(h3:j < 16)(h:nS k=nS j):k=j:=by
  have:=AD ⟨k.toNat,by lia⟩ ⟨j.toNat,by lia⟩ (by
    show nS ((k.toNat:Nat):Int)=nS ((j.toNat:Nat):Int)
    rw [Int.toNat_of_nonneg h0,Int.toNat_of_nonneg h2];exact h)
  have:=congrArg Fin.val this
  dsimp only at this
  lia
theorem sA{ks:List Int}(h:∀k∈ks,0≤k∧k < 16):Qk (cW ks) (OX " ")=if ks=[] then [OX "none"] else ks.map nS:=by
  unfold cW
  by_cases c:ks=[]
  · rw [if_pos c,if_pos c];decide+kernel
  · rw [if_neg c,if_neg c]
    have sp:OX " "=⟨#[32]⟩:=by decide
    rw [sp]
    refine xl (by simpa using c) (fun p hp=>?_) ?_
    · obtain⟨k,hk,rfl⟩:=OO hp
      exact(Gw (h k hk).1 (h k hk).2).1
    · match ks,c,h with
      | [k],_,h=>exact(Gw (h k (by simp)).1 (h k (by simp)).2).2.1
      | k::j::r,_,h=>
        rw [Pw,Pw,pY]
        simp
theorem FK{ks:List Int}(h:∀k∈ks,0≤k∧k < 16){k:Int}(h0:0≤k)(h1:k < 16):(Qk (cW ks) (OX " ")).any (fun y=>decide (y=nS k))=decide (k∈ks):=by
  rw [sA h]
  by_cases c:ks=[]
  · rw [if_pos c,c]
    have:=(Gw h0 h1).2.2
    simp [Pt this]
  · rw [if_neg c,RT]
    simp only [List.any_map,List.any_eq_true,Function.comp,decide_eq_true_eq]
    constructor
    · rintro⟨j,hj,e⟩
      rw [←Gx (h j hj).1 (h j hj).2 h0 h1 e];exact hj
    · exact fun hk=>⟨k,hk,rfl⟩
theorem C6{W:aS}{a t:List Int}{k:Int}(h:W.may a t k=true):k∉a:=by
  simp only [aS.may,PV,Bool.not_eq_true',List.contains_eq_mem,decide_eq_false_iff_not] at h
  intro z
  simp_all
theorem DR(ks:List Int):Pv (cW ks)=true:=by
  unfold cW
  split
  · exact aB _
  · exact qK (aB _) _ fun t ht=>by
      obtain⟨k, -,rfl⟩:=OO ht
      exact p5 k
theorem Ct(W:aS)(k:Int)(b:Bool):Pv (wb W k b)=true:=by
  unfold wb
  split
  · exact kS (aB _) (p5 _)
  · exact aB _
structure Iv (W:aS) (r:List (Int × Bool)) (o:Option Int):Prop where
  run:kW W ([],[]) r
  wait:∀k,o=some k→ix W k∧k∉(bg W ([],[]) r).1
def jU(r:List (Int × Bool))(o:Option Int):Ob:=.st (r.map dR) (oL o)
def Tl(W:aS)(x:Str)(r:List (Int × Bool))(o:Option Int)(r':List (Int × Bool))(o':Option Int)(t:Str):Prop:=cO ([some (.d (au W)),none,some (.d (.str x))],[(.s 1,jU r o)])=some (.str t,[(.s 1,jU r' o')])∧fJ ([none,some (.d (.str x)),some (.d (.str t))],[(.s 0,cj W r o)])=some (.bool true,[(.s 0,cj W r' o')])
theorem xu(a b:Ob):PU (Lc.s 5) [(Lc.s 5,a),(Lc.s 4,b)]=some a:=rfl
theorem xt(a b:Ob):PU (Lc.s 4) [(Lc.s 5,a),(Lc.s 4,b)]=some b:=rfl
theorem xx(a b o:Ob):qH (.s 5) o [(Lc.s 5,a),(Lc.s 4,b)]=[(Lc.s 5,o),(Lc.s 4,b)]:=rfl
theorem xw(a b o:Ob):qH (.s 4) o [(Lc.s 5,a),(Lc.s 4,b)]=[(Lc.s 5,a),(Lc.s 4,o)]:=rfl
theorem l_{W1:List Nat}{g:FG}{f:XS}(P:Nat→EX→Prop):∀(items:List OT) (k:Nat) (x:EX),(∀i d x,items[i]?=some d→P (k+i) x→∃e1 x2,iP W1 x.2=true∧g d x.1=some e1∧okO x.2 e1=true∧f (e1,x.2)=some (.nx x2)∧P (k+i+1) x2)→P k x→∃x',qU W1 g f items x=some (.nx x')∧P (k+items.length) x'
  | [],k,x,_,h=>⟨x,rfl,h⟩
  | d::r,k,x,hs,h=>by
    obtain⟨e1,x2,h1,h2,h3,h4,h5⟩:=hs 0 d x rfl h
    obtain⟨x',h6,h7⟩:=l_ P r (k+1) x2 (fun i y x hy hp=>by
      have:=hs (i+1) y x (by simpa using hy) (by rw [show k+(i+1)=k+1+i by lia];exact hp)
      rw [show k+(i+1)+1=k+1+i+1 by lia] at this
      exact this) h5
    refine⟨x',?_,by rw [QD,show k+(r.length+1)=k+1+r.length by lia];exact h7⟩
    unfold qU
    simp only [h1,h2,h3,h4,Pn,if_true]
    exact h6
def MR(W:aS):Std→List (Int × Bool)→Prop
  | _,[]=>True
  | s,p::r=>W.may s.1 s.2 p.1=true∧MR W (nxt W s p.1 p.2) r
theorem MR.snoc{W:aS}{k:Int}{b:Bool}:∀{r:List (Int × Bool)} {s:Std},MR W s r→W.may (bg W s r).1 (bg W s r).2 k=true→MR W s (r++[(k,b)])
  | [],s,_,h=>⟨h,trivial⟩
  | p::r,s,⟨h1,h2⟩,h=>⟨h1,MR.snoc h2 h⟩
theorem MR.at{W:aS}{p:Int × Bool}:∀{r:List (Int × Bool)} {s:Std} {i:Nat},MR W s r→r[i]?=some p→W.may (bg W s (r.take i)).1 (bg W s (r.take i)).2 p.1=true
  | [],s,i,_,h=>by simp at h
  | q::r,s,0,⟨h1,h2⟩,h=>by
    simp at h
    subst h
    exact h1
  | q::r,s,i+1,⟨h1,h2⟩,h=>MR.at (r:=r) (i:=i) h2 (by simpa using h)
structure Cp (W:aS) (r:List (Int × Bool)) (o:Option Int):Prop where
  iv:Iv W r o
  mr:MR W ([],[]) r
  wm:∀k,o=some k→W.may (bg W ([],[]) r).1 (bg W ([],[]) r).2 k=true
theorem wK{W:aS}(ok:W.Ok){r:List (Int × Bool)}{o:Option Int}(h8:Cp W r o){x:Str}(hx:Ln W False x):∃r' o' t,Cp W r' o'∧Tl W x r o r' o' t:=by
  have h:=h8.iv
  have hl:=h.run.len ok
  have yn:∀b,∃r' o' t,Cp W r' o'∧Tl W (B' b) r o r' o' t:=fun b=>by
    cases o with
    | none=>exact⟨r,none,_,h8,xn ok h.run b,uh (aB _) (xh b (CC b)) rfl rfl⟩
    | some k=>
      obtain⟨hk,hn⟩:=h.wait k rfl
      exact⟨r++[(k,b)],none,_,⟨⟨h.run.snoc hk hn,fun j z=>by cases z⟩,h8.mr.snoc (h8.wm k rfl),fun j z=>by cases z⟩,zl ok h.run hk b,uh (Ct _ _ _) (xh b (zT ok hl hk b)) rfl rfl⟩
  cases hx with
  | ask hk=>
    rename_i k
    obtain⟨g,hg⟩:∃g,g=(o.isNone&&W.may (bg W ([],[]) r).1 (bg W ([],[]) r).2 k):=⟨_,rfl⟩
    refine⟨r,if g=true then some k else o,if g=true then OX "asked" else OX "NoAsk",⟨⟨h.run,fun j z=>?_⟩,h8.mr,fun j z=>?_⟩,zm ok h.run hk g hg,uh (by split<;>exact aB _) (ue ok hk (wx ok h.run hk g hg)) rfl rfl⟩
    · by_cases c:g=true
      · rw [if_pos c] at z
        cases z
        rw [c] at hg
        exact⟨hk,C6 (SS.mp hg.symm).2⟩
      · rw [if_neg c] at z
        exact h.wait j z
    · by_cases c:g=true
      · rw [if_pos c] at z
        cases z
        rw [c] at hg
        exact(SS.mp hg.symm).2
      · rw [if_neg c] at z
        exact h8.wm j z
  | yes=>exact yn true
  | no=>exact yn false
  | back z=>exact z.elim
theorem Ay{W:aS}(ok:W.Ok){r:List (Int × Bool)}{o:Option Int}(h:Iv W r o):Tl W (OX "may") r o r o (cW (W.can (bg W ([],[]) r).1 (bg W ([],[]) r).2)):=⟨zo ok h.run,uh (DR _) (DT ok h.run) rfl rfl⟩
theorem wY{W:aS}(ok:W.Ok){r:List (Int × Bool)}(hr:kW W ([],[]) r)(hm:MR W ([],[]) r){i:Nat}{k:Int}{b:Bool}(hi:r[i]?=some (k,b)):cT ([some (.d (au W)),some (.d (.list (r.map dR))),none,some (.d (.int k)),some (.d (.bool b))],[(.s 2,cj W (r.take i) none)])=some (.nx ([some (.d (au W)),some (.d (.list (r.map dR))),none,some (.d (.int k)),some (.d (.bool b))],[(.s 2,cj W (r.take (i+1)) none)])):=by
  have hk:ix W k:=hr.inw _ (OQ hi)
  obtain⟨k0,k1⟩:=id hk
  have wl:=ok.len
  have k1':k < 16:=by lia
  have hrt:kW W ([],[]) (r.take i):=hr.take i
  have a1:=ue ok hk (wx ok (o:=none) hrt hk true (by rw [hm.at hi];rfl))
  rw [if_pos rfl,if_pos rfl] at a1
  have a2:=xh b (zT ok (r:=r.take i) (hrt.len ok) hk b)
  have e1:r.take i++[(k,b)]=r.take (i+1):=by rw [List.take_succ,hi];rfl
  rw [e1] at a2
  have s4:∀e:En,g1 eF e [.d (.int k)]=some (.d (.str (nS k))):=fun e=>eZ k0 (by lia)
  have s5:∀e:En,fV e (.d (.str (OX "ask "))) (.d (.str (nS k)))=some (.d (.str (Lk k))):=fun e=>oZ (by
    have:=jF k0 (by lia:k < 1000000)
    have:(OX "ask ").length=4:=by decide
    lia)
  have s6:∀e:En,g1 pP e [.d (.bool b)]=some (.d (.int (if b=true then 1 else 0))):=fun e=>by cases b<;>rfl
  have s7:atI [PyData.str (OX "no"),PyData.str (OX "yes")] (if b=true then 1 else 0)=some (.str (B' b)):=by cases b<;>rfl
  have m0:∀o,(uq (au W) (.tuple ((r.take i).map dR)) (wO o)).lookup ("say":Str)=none:=fun o=>rfl
  have ow:∀a:Ob,okO [(Lc.s 2,a)] [some (.d (au W)),some (.d (.list (r.map dR))),none,some (.d (.int k)),some (.d (.bool b))]=true:=fun a=>rfl
  unfold cj at*
  generalize r.map dR=rs at*
  generalize (r.take i).map dR=r1 at*
  generalize (r.take (i+1)).map dR=r2 at*
  generalize au W=w at*
  generalize Lk k=x at*
  generalize nS k=y at*
  generalize wb W k b=z at*
  simp? [cT,aZ,ud,bu,km,bv,bY,mz,ku,iU,L2.locs,ar,iP,okO,Lc.slot,cu,gr,Fv,a1,a2,s4,s5,s6,s7]
theorem D8{W:aS}(ok:W.Ok){r:List (Int × Bool)}(hr:kW W ([],[]) r)(hm:MR W ([],[]) r):b7 [some (.d (au W)),some (.d (.list (r.map dR)))]=some (cj W r none):=by
  obtain⟨x',h1,v3,v4,rfl⟩:=l_ (W1:=[3]++([4]++[])) (g:=cy (aL (aj 3) (aL (aj 4) bT))) (f:=cT) (fun i x=>∃v3 v4,x=([some (.d (au W)),some (.d (.list (r.map dR))),none,v3,v4],[(.s 2,cj W (r.take i) none)])) (r.map dR) 0 ([some (.d (au W)),some (.d (.list (r.map dR))),none,none,none],[(.s 2,cj W [] none)]) (fun i d x hx hI=>by
    obtain⟨v3,v4,rfl⟩:=hI
    rw [PF] at hx
    obtain⟨⟨k,b⟩,hi,rfl⟩:=OL hx
    rw [QY]
    refine⟨[some (.d (au W)),some (.d (.list (r.map dR))),none,some (.d (.int k)),some (.d (.bool b))],_,rfl,?_,rfl,wY ok hr hm hi,_,_,rfl⟩
    generalize au W=w
    generalize r.map dR=rs
    simp? [dR]) ⟨none,none,rfl⟩
  have hi:h_ [some (.d (au W)),some (.d (.list (r.map dR))),none,none,none]=some (r.map dR,[],[some (.d (au W)),some (.d (.list (r.map dR))),none,none,none]):=by
    generalize au W=w
    generalize r.map dR=rs
    rfl
  have m1:=xX (au W)
  have e1:Ob.dk (uq (au W) (.tuple []) .none)=cj W [] none:=rfl
  rw [e1] at m1
  rw [QY,Px,List.take_length] at h1
  unfold b7 C5
  refine(if_pos (show([some (Sv.d (au W)),some (Sv.d (PyData.list (r.map dR)))]:En).length=2 from rfl)).trans ?_
  have s1:vG 2 a9 (ar (ab 0)) ([some (.d (au W)),some (.d (.list (r.map dR)))]++Pi 3 none,[])=some (.nx ([some (.d (au W)),some (.d (.list (r.map dR))),none,none,none],[(.s 2,cj W [] none)])):=by
    unfold vG ar
    show(((ab 0) [some (.d (au W)),some (.d (.list (r.map dR))),none,none,none]).bind _).bind _=_
    have hv:(ab 0) [some (.d (au W)),some (.d (.list (r.map dR))),none,none,none]=some (.d (au W),[some (.d (au W)),some (.d (.list (r.map dR))),none,none,none]):=rfl
    rw [hv]
    simp only [Pn,hR,okO,List.all_nil,if_true,m1]
    rfl
  have s2:iE ([3]++([4]++[])) h_ (cy (aL (aj 3) (aL (aj 4) bT))) cT ([some (.d (au W)),some (.d (.list (r.map dR))),none,none,none],[(.s 2,cj W [] none)])=some (.nx ([some (.d (au W)),some (.d (.list (r.map dR))),none,v3,v4],[(.s 2,cj W r none)])):=by
    unfold iE
    rw [hi]
    exact h1
  have sq:∀{f:XS} {g:Cs} {x x1:EX},f x=some (.nx x1)→r_ f g x=g x1:=fun{f g x x1} h=>by
    unfold r_
    rw [h]
    rfl
  unfold kZ
  rw [sq s1,sq s2]
  rfl
def e8(ns ds:List Int)(t:Int)(W:aS)(a:Int)(D:Str)(v8 v9 v10:Option OT):En:=[some (.d (.list (ns.map .int))),some (.l (ds.map .int)),some (.d (.int t)),some (.d (au W)),none,none,some (.d (.int a)),some (.d (.str D)),v8.map .d,v9.map .d,v10.map .d]
theorem ky:∀ds:List Int,cq (ds.map PyData.int)=true
  | []=>rfl
  | d::r=>by simp [cq,fU,ky r]
theorem Fx{ns ds:List Int}{t:Int}{W:aS}{a:Int}{D:Str}{v8 v9 v10:Option OT}{j:Nat}{s:Sv}(hj:j≠1)(h:(e8 ns ds t W a D v8 v9 v10)[j]?=some (some s)):∃d,s=.d d:=by
  unfold e8 at h
  match j with
  | 0=>cases h;exact⟨_,rfl⟩
  | 1=>exact absurd rfl hj
  | 2=>cases h;exact⟨_,rfl⟩
  | 3=>cases h;exact⟨_,rfl⟩
  | 4=>cases h
  | 5=>cases h
  | 6=>cases h;exact⟨_,rfl⟩
  | 7=>cases h;exact⟨_,rfl⟩
  | 8=>cases v8 with
    | none=>cases h
    | some d=>cases h;exact⟨_,rfl⟩
  | 9=>cases v9 with
    | none=>cases h
    | some d=>cases h;exact⟨_,rfl⟩
  | 10=>cases v10 with
    | none=>cases h
    | some d=>cases h;exact⟨_,rfl⟩
  | j+11=>simp at h
theorem yG(W:aS):fU (au W)=true:=by
  have ties:∀ts:List lK,cq (ts.map b5)=true:=fun ts=>by
    induction ts with
    | nil=>rfl
    | cons t r ih=>simp [cq,b5,fU,ih]
  unfold au
  simp [fU,cq,ky,ties]
theorem zZ(W:aS)(r:List (Int × Bool))(o:Option Int):rK (cj W r o)=true:=by
  have rs:∀r:List (Int × Bool),cq (r.map dR)=true:=fun r=>by
    induction r with
    | nil=>rfl
    | cons t r ih=>simp [cq,dR,fU,ih]
  unfold cj rK uq
  cases o<;>simp [yG,fU,rs,wO]
theorem xW{W:aS}{a t:List Int}{k:Int}(hk:ix W k):k∈W.can a t↔ W.may a t k=true:=by
  unfold aS.can aS.rng
  rw [QJ]
  constructor
  · exact fun h=>h.2
  · refine fun hm=>⟨Rt.mpr ⟨k.toNat,?_,?_⟩,hm⟩
    · rw [Ru];have:=hk.1;have:=hk.2;lia
    · have:=hk.1;show((k.toNat:Nat):Int)=k;lia
theorem zP{W:aS}(ok:W.Ok){a t:List Int}:∀k∈W.can a t,0≤k∧k < 16:=fun k hk=>by
  unfold aS.can aS.rng at hk
  obtain⟨h1,_⟩:=QJ.mp hk
  obtain⟨i,h3,rfl⟩:=OO h1
  rw [Ru] at h3
  have:=ok.len
  exact⟨by show(0:Int)≤(i:Int);lia,by show(i:Int) < _;lia⟩
theorem jZ:∀{ys:List Str},(∀y∈ys,Pv y=true)→Qp (ys.map .str)=true
  | [],_=>rfl
  | y::r,h=>by
    simp only [Pw,Qp,PM,h y (by simp),Bool.true_and]
    exact jZ fun z hz=>h z (PP _ hz)
theorem z6{e:En}{x:Str}{ys:List Str}(hx:Pv x=true)(hy:∀y∈ys,Pv y=true):tF false e (.d (.str x)) (.l (ys.map .str))=some (.d (.bool (ys.any fun y=>decide (y=x)))):=by
  have v:∀y:Str,Qt (.str y) (.str x)=decide (y=x):=fun y=>by
    show(y==x)=decide (y=x)
    by_cases c:y=x<;>simp [c]
  unfold tF
  simp only [hU,eU,Pn]
  rw [if_pos (by rw [jZ hy];simp [PM,Qj,hx])]
  rw [if_neg (by decide),List.any_map]
  simp only [Function.comp_def,v]
noncomputable def gp(g:Bool):Str:=if g=true then OX "asked" else OX "NoAsk"
theorem zw{W:aS}(ok:W.Ok){ns ds:List Int}{t a:Int}{D:Str}{v9 v10:Option OT}{r:List (Int × Bool)}{o:Option Int}{k:Int}(h8:Cp W r o)(hk:ix W k):
    BK [9] 5 (gE 9 (kl 2 aN (j4 "say" (ny 2 b7 (bv (ar (ab 3)) (bv (ar (ay dI (ab 5) (vC (.int 0)))) bY))) (yI (ar (ay fV (vC (.str ("ask ":Str))) (az (g1 eF) (aa (ab 8) ah)))) Ie)))) (e8 ns ds t W a D (some (.int k)) v9 v10,[(.s 5,jU r o),(.s 4,cj W r o)])=some (.nx (e8 ns ds t W a D (some (.int k)) (some (.str (gp (W.may (bg W ([],[]) r).1 (bg W ([],[]) r).2 k)))) v10,[(.s 5,jU r o),(.s 4,cj W r o)])):=by
  obtain⟨k0,k1⟩:=id hk
  have wl:=ok.len
  have m1:=D8 ok h8.iv.run h8.mr
  have a1:=ue ok hk (wx ok (o:=none) h8.iv.run hk _ rfl)
  have s4:∀e:En,g1 eF e [.d (.int k)]=some (.d (.str (nS k))):=fun e=>eZ k0 (by lia)
  have s5:∀e:En,fV e (.d (.str (OX "ask "))) (.d (.str (nS k)))=some (.d (.str (Lk k))):=fun e=>oZ (by
    have:=jF k0 (by lia:k < 1000000)
    have:(OX "ask ").length=4:=by decide
    lia)
  have ef:gp (W.may (bg W ([],[]) r).1 (bg W ([],[]) r).2 k)=if (none:Option Int).isNone&&W.may (bg W ([],[]) r).1 (bg W ([],[]) r).2 k=true then OX "asked" else OX "NoAsk":=by
    unfold gp
    simp
  obtain⟨F,hF⟩:∃F,F=gp (W.may (bg W ([],[]) r).1 (bg W ([],[]) r).2 k):=⟨_,rfl⟩
  have a1':∃o',aN ([none,some (.d (.str (Lk k)))],[(.s 0,cj W r none)])=some (.str F,[(.s 0,cj W r o')]):=⟨_,by
    rw [hF];unfold gp;simpa using a1⟩
  obtain⟨o',a1'⟩:=a1'
  rw [←hF]
  obtain⟨E,hE⟩:∃E,E=e8 ns ds t W a D (some (.int k)) v9 v10:=⟨_,rfl⟩
  obtain⟨E2,hE2⟩:∃E2,E2=(E.set 5 (some (Sv.d (.tuple [.list (r.map dR),.list (oL o)])))).set 9 (some (.d (.str F))):=⟨_,rfl⟩
  have s1:gE 9 (kl 2 aN (j4 "say" (ny 2 b7 (bv (ar (ab 3)) (bv (ar (ay dI (ab 5) (vC (.int 0)))) bY))) (yI (ar (ay fV (vC (.str ("ask ":Str))) (az (g1 eF) (aa (ab 8) ah)))) Ie))) (E.set 5 (some (Sv.d (.tuple [.list (r.map dR),.list (oL o)]))),[(.s 4,cj W r o)])=some (.nx (E2,[(.s 4,cj W r o)])):=by
    rw [hE2,hE]
    have hok:∀b,okO [(Lc.s 4,cj W r o)] [some (Sv.d (.list (ns.map .int))),some (Sv.l (ds.map .int)),some (Sv.d (.int t)),some (Sv.d (au W)),none,b,some (Sv.d (.int a)),some (Sv.d (.str D)),some (Sv.d (.int k)),v9.map .d,v10.map .d]=true:=fun b=>rfl
    have hdk:∃gs,cj W r none=.dk gs∧gs.lookup ("say":Str)=none:=⟨_,rfl,rfl⟩
    obtain⟨gs,hd,hn⟩:=hdk
    have hw:iP [9] [(Lc.s 4,cj W r o)]=true:=rfl
    unfold e8
    rw [hd] at m1 a1'
    generalize cj W r o'=D3 at*
    generalize cj W r o=D1 at*
    generalize au W=w at*
    generalize ns.map PyData.int=N at*
    generalize ds.map PyData.int=d0 at*
    generalize r.map dR=rs at*
    generalize oL o=os at*
    generalize v9.map Sv.d=u9 at*
    generalize v10.map Sv.d=u10 at*
    generalize Lk k=x at*
    generalize nS k=y at*
    simp? [gE,kl,j4,ny,yI,Ie,bv,bY,ri,oG,ku,L2.locs,ar,Lc.slot,okO,iP,hn,m1,a1',s4,s5]
  have h5:E[5]?=some none:=by rw [hE];rfl
  have fl:rg [9] 5 E (E2,[(.s 4,cj W r o)]):=by
    refine⟨fun j s n5 hs=>?_,fun p hp=>?_⟩
    · dsimp only at hs
      by_cases c9:j=9
      · subst c9
        rw [hE2,hE] at hs
        have hs:some (some (Sv.d (.str F)))=some (some s):=hs
        cases hs
        exact .inl rfl
      have hs':E[j]?=some (some s):=by rw [hE2,Pm (Pt c9),Pm (Pt n5)] at hs;exact hs
      by_cases c1:j=1
      · subst c1
        rw [hE] at hs'
        have hs:some (some (Sv.l (ds.map .int)))=some (some s):=hs'
        cases hs
        exact .inl (ky ds)
      · exact .inr ⟨by simpa using c9,hs',by rw [hE] at hs';exact Fx c1 hs'⟩
    · rw [PJ] at hp
      subst hp
      exact⟨4,rfl,by decide,zZ W r o⟩
  rw [←hE]
  have e1:jU r o=.st (r.map dR) (oL o):=rfl
  have lk:PU (Lc.s 5) [(Lc.s 5,jU r o),(Lc.s 4,cj W r o)]=some (.st (r.map dR) (oL o)):=rfl
  unfold BK
  dsimp only
  rw [lk]
  dsimp only
  have of:jG 5 [(Lc.s 5,jU r o),(Lc.s 4,cj W r o)]=[(.s 4,cj W r o)]:=rfl
  rw [of,s1,Pn]
  dsimp only
  rw [if_pos fl]
  unfold uB
  rw [hE2,hE]
  rfl
theorem xg{W:aS}(ok:W.Ok){a t:List Int}:(cW (W.can a t)).length≤1000:=BF (sZ ok).1 (sZ ok).2
theorem B4{W:aS}(ok:W.Ok){ns ds:List Int}{t a:Int}{v9 v10:Option OT}{r:List (Int × Bool)}{o:Option Int}{k:Int}(h8:Cp W r o)(hk:ix W k):
    ∃v9',Fi (e8 ns ds t W a (cW (W.can (bg W ([],[]) r).1 (bg W ([],[]) r).2)) (some (.int k)) v9 v10,[(.s 5,jU r o),(.s 4,cj W r o)])=some (.ct (e8 ns ds t W a (cW (W.can (bg W ([],[]) r).1 (bg W ([],[]) r).2)) (some (.int k)) v9' v10,[(.s 5,jU r o),(.s 4,cj W r o)]))∨
      Fi (e8 ns ds t W a (cW (W.can (bg W ([],[]) r).1 (bg W ([],[]) r).2)) (some (.int k)) v9 v10,[(.s 5,jU r o),(.s 4,cj W r o)])=some (.nx (e8 ns ds t W a (cW (W.can (bg W ([],[]) r).1 (bg W ([],[]) r).2)) (some (.int k)) v9' v10,[(.s 5,jU r o),(.s 4,cj W r o)])):=by
  obtain⟨k0,k1⟩:=id hk
  have wl:=ok.len
  have vs:=zw ok (ns:=ns) (ds:=ds) (t:=t) (a:=a) (D:=cW (W.can (bg W ([],[]) r).1 (bg W ([],[]) r).2)) (v9:=v9) (v10:=v10) h8 hk
  have hin:=FK (zP ok (a:=(bg W ([],[]) r).1) (t:=(bg W ([],[]) r).2)) k0 (by lia:k < 16)
  have rl:=xg ok (a:=(bg W ([],[]) r).1) (t:=(bg W ([],[]) r).2)
  have sr:=sA (zP ok (a:=(bg W ([],[]) r).1) (t:=(bg W ([],[]) r).2))
  rw [show decide (k∈W.can (bg W ([],[]) r).1 (bg W ([],[]) r).2)=W.may (bg W ([],[]) r).1 (bg W ([],[]) r).2 k from by
    rw [RT,decide_eq_true_eq];exact xW hk] at hin
  have sok:∀y∈Qk (cW (W.can (bg W ([],[]) r).1 (bg W ([],[]) r).2)) (OX " "),Pv y=true:=fun y hy=>by
    rw [sr] at hy
    split at hy
    · rw [PJ] at hy;subst hy;exact aB _
    · obtain⟨j,_,rfl⟩:=OO hy;exact p5 j
  have q1:=fun e=>z6 (e:=e) (p5 k) sok
  rw [hin] at q1
  have m7:∀e:En,bD e (.d (.int a)) (.d (.int 7))=some (.d (.int (a % 7))):=fun e=>ba (by decide)
  have e7:∀e:En,bi true e (.d (.int (a % 7))) (.d (.int 3))=some (.d (.bool (!(a % 7==3)))):=fun e=>fC
  have s4:∀e:En,g1 eF e [.d (.int k)]=some (.d (.str (nS k))):=fun e=>eZ k0 (by lia)
  have s8:∀e:En,fZ e (.d (.str (cW (W.can (bg W ([],[]) r).1 (bg W ([],[]) r).2)))) (.d (.str (OX " ")))=some (.l ((Qk (cW (W.can (bg W ([],[]) r).1 (bg W ([],[]) r).2)) (OX " ")).map .str)):=fun e=>by
    unfold fZ
    simp only [bP,Pn]
    rw [if_pos ⟨by decide,by lia⟩]
  generalize W.may (bg W ([],[]) r).1 (bg W ([],[]) r).2 k=g at*
  generalize cW (W.can (bg W ([],[]) r).1 (bg W ([],[]) r).2)=D at*
  generalize Qk D (OX " ")=SP at*
  have hok:∀v,okO [(Lc.s 5,jU r o),(Lc.s 4,cj W r o)] (e8 ns ds t W a D (some (.int k)) v v10)=true:=fun v=>rfl
  have s6:∀e:En,g1 pP e [.d (.bool g)]=some (.d (.int (if g=true then 1 else 0))):=fun e=>by cases g<;>rfl
  have s7:atI [PyData.str (OX "NoAsk"),PyData.str (OX "asked")] (if g=true then 1 else 0)=some (.str (gp g)):=by cases g<;>rfl
  have ff:Pv (gp g)=true:=by cases g<;>exact aB _
  have q9:∀e:En,bi true e (.d (.str (gp g))) (.d (.str (gp g)))=some (.d (.bool false)):=fun e=>by
    rw [fD ff ff];simp
  have sq:∀{f g:XS} {x x1:EX},f x=some (.nx x1)→aZ f g x=g x1:=fun{f g x x1} h=>by
    unfold aZ
    rw [h]
    rfl
  by_cases c:a % 7=3
  · refine⟨some (.str (gp g)),.inr ?_⟩
    unfold Fi
    have t1:ed (dM (aA (ay (bi true) (ay bD (ab 6) (vC (.int 7))) (vC (.int 3))))) DS cg (e8 ns ds t W a D (some (.int k)) v9 v10,[(.s 5,jU r o),(.s 4,cj W r o)])=some (.nx (e8 ns ds t W a D (some (.int k)) v9 v10,[(.s 5,jU r o),(.s 4,cj W r o)])):=by
      have hk:=hok v9
      unfold e8 at*
      generalize cj W r o=D0 at*
      generalize jU r o=S0 at*
      simp? [ed,cg,dM,m7,e7,c,okO,iP,Lc.slot]
    rw [sq t1,sq vs]
    have hk:=hok (some (.str (gp g)))
    unfold e8 at*
    generalize cj W r o=D0 at*
    generalize jU r o=S0 at*
    generalize gp g=FS at*
    simp? [ed,cg,dM,m7,e7,s4,s6,s7,s8,q1,q9,okO,iP,Lc.slot]
  · refine⟨v9,.inl ?_⟩
    have hk:=hok v9
    have c':(a % 7==3)=false:=by simpa using c
    unfold Fi e8 at*
    generalize cj W r o=D0 at*
    generalize jU r o=S0 at*
    simp? [aZ,ed,DS,cg,dM,m7,e7,c,c',okO,iP,Lc.slot]
theorem rM{W1:List Nat}{g:FG}{f:XS}(P:Nat→EX→Prop):∀(items:List OT) (k:Nat) (x:EX),(∀i d x,items[i]?=some d→P (k+i) x→∃e1 x2,iP W1 x.2=true∧g d x.1=some e1∧okO x.2 e1=true∧(f (e1,x.2)=some (.nx x2)∨f (e1,x.2)=some (.ct x2))∧P (k+i+1) x2)→P k x→∃x',qU W1 g f items x=some (.nx x')∧P (k+items.length) x'
  | [],k,x,_,h=>⟨x,rfl,h⟩
  | d::r,k,x,hs,h=>by
    obtain⟨e1,x2,h1,h2,h3,h4,h5⟩:=hs 0 d x rfl h
    obtain⟨x',h6,h7⟩:=rM P r (k+1) x2 (fun i y x hy hp=>by
      have:=hs (i+1) y x (by simpa using hy) (by rw [show k+(i+1)=k+1+i by lia];exact hp)
      rw [show k+(i+1)+1=k+1+i+1 by lia] at this
      exact this) h5
    refine⟨x',?_,by rw [QD,show k+(r.length+1)=k+1+r.length by lia];exact h7⟩
    unfold qU
    rcases h4 with h4 | h4
    · simp only [h1,h2,h3,h4,Pn,if_true]
      exact h6
    · simp only [h1,h2,h3,h4,Pn,if_true]
      exact h6
theorem B3{W:aS}(ok:W.Ok){ns ds:List Int}{t a:Int}{v8 v9 v10:Option OT}{r:List (Int × Bool)}{o:Option Int}(h8:Cp W r o):
    ∃v8' v9',iE [8] Kz (aj 8) Fi (e8 ns ds t W a (cW (W.can (bg W ([],[]) r).1 (bg W ([],[]) r).2)) v8 v9 v10,[(.s 5,jU r o),(.s 4,cj W r o)])=some (.nx (e8 ns ds t W a (cW (W.can (bg W ([],[]) r).1 (bg W ([],[]) r).2)) v8' v9' v10,[(.s 5,jU r o),(.s 4,cj W r o)])):=by
  have wl:=ok.len
  obtain⟨x',h1,w8,w9,rfl⟩:=rM (W1:=[8]) (g:=aj 8) (f:=Fi) (fun _ x=>∃v8 v9,x=(e8 ns ds t W a (cW (W.can (bg W ([],[]) r).1 (bg W ([],[]) r).2)) v8 v9 v10,[(.s 5,jU r o),(.s 4,cj W r o)])) (be 0 W.ties.length) 0 (e8 ns ds t W a (cW (W.can (bg W ([],[]) r).1 (bg W ([],[]) r).2)) v8 v9 v10,[(.s 5,jU r o),(.s 4,cj W r o)]) (fun i d x hx hI=>by
    obtain⟨w8,w9,rfl⟩:=hI
    obtain⟨ex,hi⟩:=cc hx
    rw [Int.zero_add] at ex
    subst ex
    obtain⟨w9',hs⟩:=B4 ok (ns:=ns) (ds:=ds) (t:=t) (a:=a) (v9:=w9) (v10:=v10) (k:=(i:Int)) h8 ⟨by lia,by lia⟩
    exact⟨e8 ns ds t W a (cW (W.can (bg W ([],[]) r).1 (bg W ([],[]) r).2)) (some (.int (i:Int))) w9 v10,_,rfl,rfl,rfl,hs.symm,_,_,rfl⟩) ⟨v8,v9,rfl⟩
  have g1':∀e:En,dI e (.d (au W)) (.d (.int 1))=some (.d (.tuple (W.ties.map b5))):=fun e=>by rw [cJ,gB,er];rfl
  have hi:Kz (e8 ns ds t W a (cW (W.can (bg W ([],[]) r).1 (bg W ([],[]) r).2)) v8 v9 v10)=some (be 0 W.ties.length,[],e8 ns ds t W a (cW (W.can (bg W ([],[]) r).1 (bg W ([],[]) r).2)) v8 v9 v10):=by
    generalize cW (W.can (bg W ([],[]) r).1 (bg W ([],[]) r).2)=D
    have hl:((W.ties.map b5).length:Int)=(W.ties.length:Int):=by simp
    refine cF (n:=(W.ties.length:Int)) ?_ (by lia) (by lia)
    unfold e8
    unfold b5 at*
    generalize (W.ties.map fun t=>PyData.tuple [.int t.one,.int t.other,.tuple [.int t.top,.int t.bot],.int t.worth])=TT at*
    generalize au W=w at*
    simp? [g1',hl]
  refine⟨w8,w9,?_⟩
  unfold iE
  rw [hi]
  exact h1
def eB(ns ds:List Int)(t:Int)(W:aS)(v6 v7 v8 v9 v10:Option OT):En:=[some (.d (.list (ns.map .int))),some (.l (ds.map .int)),some (.d (.int t)),some (.d (au W)),none,none,v6.map .d,v7.map .d,v8.map .d,v9.map .d,v10.map .d]
theorem E3{f g:XS}{x x1:EX}(h:f x=some (.nx x1)):aZ f g x=g x1:=by
  unfold aZ
  rw [h]
  rfl
theorem wa{W:aS}(ok:W.Ok){ns ds:List Int}(hd:j0 ds){t a:Int}{v7 v8 v9 v10:Option OT}{r:List (Int × Bool)}{o:Option Int}(h8:Cp W r o):
    ∃ds' v7' v8' v9' v10' r' o',HU (eB ns ds t W (some (.int a)) v7 v8 v9 v10,[(.s 5,jU r o),(.s 4,cj W r o)])=some (.nx (eB ns ds' t W (some (.int a)) v7' v8' v9' v10',[(.s 5,jU r' o'),(.s 4,cj W r' o')]))∧j0 ds'∧Cp W r' o':=by
  obtain⟨x,hx,ht⟩:=Ht ok hd (menu:=[OX "ask",OX "yes",OX "ask",OX "no",OX "no"]) (by decide+kernel) (by decide)
  rw [show(OX "back"∈[OX "ask",OX "yes",OX "ask",OX "no",OX "no"])=False from eq_false (by decide+kernel)] at hx
  obtain⟨r',o',tt,h',p1,p2⟩:=wK ok h8 hx
  obtain⟨m1,m2⟩:=Ay ok h8.iv
  obtain⟨w8,w9,tl⟩:=B3 ok (ns:=ns) (ds:=ds) (t:=t) (a:=a) (v8:=v8) (v9:=v9) (v10:=v10) h8
  simp only [Pw,Qc] at ht
  generalize cW (W.can (bg W ([],[]) r).1 (bg W ([],[]) r).2)=D at*
  refine⟨ds.tail,some (.str D),w8,w9,some (.str x),r',o',?_,(fun x hx=>hd x (List.mem_of_mem_tail hx)),h'⟩
  have s1:gE 7 (bu 3 cO (bv (ar (ab 3)) (nJ 5 (bv (ar (vC (.str ("may":Str)))) bY)))) (eB ns ds t W (some (.int a)) v7 v8 v9 v10,[(.s 5,jU r o),(.s 4,cj W r o)])=some (.nx (e8 ns ds t W a D v8 v9 v10,[(.s 5,jU r o),(.s 4,cj W r o)])):=by
    unfold eB e8
    generalize cj W r o=D0 at*
    generalize jU r o=S0 at*
    generalize au W=w at*
    generalize v7.map Sv.d=u7 at*
    generalize v8.map Sv.d=u8 at*
    generalize v9.map Sv.d=u9 at*
    generalize v10.map Sv.d=u10 at*
    simp? [gE,bu,nJ,bv,bY,mz,ku,iU,L2.locs,ar,iP,okO,Lc.slot,cu,xu,xt,xx,xw,L2.boolD,m1]
  have s2:ed (rf (jh (bR (bu 3 fJ (nJ 4 (bv (ar (vC (.str ("may":Str)))) (bv (ar (ab 7)) bY)))))) (jh (bR (bu 3 fJ (nJ 4 (bv (ar (vC (.str ("may":Str)))) (bv (ar (ab 7)) bY)))))))
      (bO (ar (vC (.bool false)))) cg (e8 ns ds t W a D v8 v9 v10,[(.s 5,jU r o),(.s 4,cj W r o)])=some (.nx (e8 ns ds t W a D v8 v9 v10,[(.s 5,jU r o),(.s 4,cj W r o)])):=by
    unfold e8
    generalize cj W r o=D0 at*
    generalize jU r o=S0 at*
    generalize au W=w at*
    generalize v8.map Sv.d=u8 at*
    generalize v9.map Sv.d=u9 at*
    generalize v10.map Sv.d=u10 at*
    simp? [ed,cg,rf,jh,bR,bu,nJ,bv,bY,mz,ku,iU,L2.locs,ar,iP,okO,Lc.slot,cu,xu,xt,xx,xw,L2.boolD,m2]
  unfold HU
  rw [E3 s1,E3 s2,E3 tl]
  unfold eB e8
  generalize cj W r o=D0 at*
  generalize cj W r' o'=D1 at*
  generalize jU r o=S0 at*
  generalize jU r' o'=S1 at*
  generalize au W=w at*
  generalize ns.map PyData.int=N at*
  generalize ds.tail.map PyData.int=d1 at*
  generalize ds.map PyData.int=d0 at*
  generalize w8.map Sv.d=u8 at*
  generalize w9.map Sv.d=u9 at*
  generalize v10.map Sv.d=u10 at*
  simp? [aZ,io,ed,bO,cg,jh,bR,bu,nJ,bv,bY,mz,ku,iU,L2.locs,ar,iP,okO,Lc.slot,cu,xu,xt,xx,xw,L2.boolD,ht,p1,p2]
theorem v_{W:aS}(ok:W.Ok){ns ds:List Int}(hd:j0 ds){t:Int}{v6 v7 v8 v9 v10:Option OT}:
    ∃ds' v6' v7' v8' v9' v10' r' o',iE [6] KA (aj 6) HU (eB ns ds t W v6 v7 v8 v9 v10,[(.s 5,jU [] none),(.s 4,cj W [] none)])=some (.nx (eB ns ds' t W v6' v7' v8' v9' v10',[(.s 5,jU r' o'),(.s 4,cj W r' o')]))∧j0 ds':=by
  obtain⟨x',h1,d,w6,w7,w8,w9,w10,r,o,rfl,hd', -⟩:=l_ (W1:=[6]) (g:=aj 6) (f:=HU) (fun _ x=>∃d w6 w7 w8 w9 w10 r o,x=(eB ns d t W w6 w7 w8 w9 w10,[(.s 5,jU r o),(.s 4,cj W r o)])∧j0 d∧Cp W r o) (be 0 20) 0 (eB ns ds t W v6 v7 v8 v9 v10,[(.s 5,jU [] none),(.s 4,cj W [] none)]) (fun i d x hx hI=>by
    obtain⟨ds1,w6,w7,w8,w9,w10,r,o,rfl,hd1,hi⟩:=hI
    obtain⟨ex, -⟩:=cc hx
    subst ex
    obtain⟨ds2,w7',w8',w9',w10',r',o',h2,hd2,hi2⟩:=wa ok (ns:=ns) hd1 (t:=t) (a:=0+(i:Int)) (v7:=w7) (v8:=w8) (v9:=w9) (v10:=w10) hi
    exact⟨eB ns ds1 t W (some (.int (0+(i:Int)))) w7 w8 w9 w10,_,rfl,rfl,rfl,h2,ds2,_,w7',w8',w9',w10',r',o',rfl,hd2,hi2⟩) ⟨ds,v6,v7,v8,v9,v10,[],none,rfl,hd,⟨⟨trivial,fun k z=>by cases z⟩,trivial,fun k z=>by cases z⟩⟩
  have hi:KA (eB ns ds t W v6 v7 v8 v9 v10)=some (be 0 20,[],eB ns ds t W v6 v7 v8 v9 v10):=cF (n:=20) rfl (by decide) (by decide)
  refine⟨d,w6,w7,w8,w9,w10,r,o,?_,hd'⟩
  unfold iE
  rw [hi]
  exact h1
def eC(ns ds:List Int)(v2 v3 v6 v7 v8 v9 v10:Option OT):En:=[some (.d (.list (ns.map .int))),some (.l (ds.map .int)),v2.map .d,v3.map .d,none,none,v6.map .d,v7.map .d,v8.map .d,v9.map .d,v10.map .d]
def Ck(ob:jk):Prop:=ob=[]∨∃a b,ob=[(Lc.s 5,a),(Lc.s 4,b)]
theorem zt{ns ds:List Int}(hd:j0 ds){t:Int}{v3 v6 v7 v8 v9 v10:Option OT}{ob:jk}(ho:Ck ob):∃ds' v3' v6' v7' v8' v9' v10' ob',HV (eC ns ds (some (.int t)) v3 v6 v7 v8 v9 v10,ob)=some (.nx (eC ns ds' (some (.int t)) v3' v6' v7' v8' v9' v10',ob'))∧j0 ds'∧Ck ob':=by
  obtain⟨W,d1,t1,hd1,ok, -, -⟩:=JO ds 12 16 hd (by decide) (by decide) (by decide) (by decide)
  obtain⟨d2,w6,w7,w8,w9,w10,r,o,h2,hd2⟩:=v_ ok (ns:=ns) hd1 (t:=t) (v6:=v6) (v7:=v7) (v8:=v8) (v9:=v9) (v10:=v10)
  have m1:=xX (au W)
  refine⟨d2,some (au W),w6,w7,w8,w9,w10,[(.s 5,jU r o),(.s 4,cj W r o)],?_,hd2,.inr ⟨_,_,rfl⟩⟩
  have e1:Ob.dk (uq (au W) (.tuple []) .none)=cj W [] none:=rfl
  have e2:Ob.st [] []=jU [] none:=rfl
  rw [e1] at m1
  have hw:iP [3] ob=true:=by
    rcases ho with rfl | ⟨a,b,rfl⟩<;>rfl
  have hok:∀e:En,e[4]?=some none→e[5]?=some none→okO ob e=true:=fun e h4 h5=>by
    rcases ho with rfl | ⟨a,b,rfl⟩
    · rfl
    · simp [okO,Lc.slot,h4,h5]
  have f4:∀a,jG 5 ((Lc.s 4,a)::jG 4 ob)=[(Lc.s 4,a)]:=fun a=>by
    rcases ho with rfl | ⟨a',b,rfl⟩<;>rfl
  have s1:io [3] (bx 3 (dX 3 rT (aa (ab 1) (aa (vC (.int 12)) (aa (vC (.int 16)) ah))))) (eC ns ds (some (.int t)) v3 v6 v7 v8 v9 v10,ob)=some (.nx (eB ns d1 t W v6 v7 v8 v9 v10,ob)):=by
    have h4:(eB ns d1 t W v6 v7 v8 v9 v10)[4]?=some none:=rfl
    have h5:(eB ns d1 t W v6 v7 v8 v9 v10)[5]?=some none:=rfl
    have hq:=hok _ h4 h5
    unfold eB at*
    unfold eC
    generalize au W=w at*
    generalize ns.map PyData.int=N at*
    generalize d1.map PyData.int=d1' at*
    generalize ds.map PyData.int=d0 at*
    generalize v3.map Sv.d=u3 at*
    generalize v6.map Sv.d=u6 at*
    generalize v7.map Sv.d=u7 at*
    generalize v8.map Sv.d=u8 at*
    generalize v9.map Sv.d=u9 at*
    generalize v10.map Sv.d=u10 at*
    simp? [io,hw,t1,hq]
  have s2:vG 4 a9 (ar (ab 3)) (eB ns d1 t W v6 v7 v8 v9 v10,ob)=some (.nx (eB ns d1 t W v6 v7 v8 v9 v10,(.s 4,cj W [] none)::jG 4 ob)):=by
    have h4:(eB ns d1 t W v6 v7 v8 v9 v10)[4]?=some none:=rfl
    have h5:(eB ns d1 t W v6 v7 v8 v9 v10)[5]?=some none:=rfl
    have hq:=hok _ h4 h5
    have hv:(ab 3) (eB ns d1 t W v6 v7 v8 v9 v10)=some (.d (au W),eB ns d1 t W v6 v7 v8 v9 v10):=rfl
    unfold vG ar
    rw [hv]
    simp only [Pn,hR,hq,if_true]
    rw [m1]
    rfl
  have s3:BJ 5 (eB ns d1 t W v6 v7 v8 v9 v10,(.s 4,cj W [] none)::jG 4 ob)=some (.nx (eB ns d1 t W v6 v7 v8 v9 v10,[(.s 5,jU [] none),(.s 4,cj W [] none)])):=by
    unfold BJ
    refine(if_pos (show 5 < 11 by decide)).trans ?_
    show some (HM.nx (_,(Lc.s 5,_)::jG 5 ((Lc.s 4,cj W [] none)::jG 4 ob)))=_
    rw [f4]
    rfl
  unfold HV
  rw [E3 s1,E3 s2,E3 s3]
  exact h2
theorem Ap(ns:List Int)(hl:ns.length≤63):∃as',u_ [.d (.list (ns.map .int))]=some (.d (.bool true),as'):=by
  obtain⟨ds,td,hd⟩:=D7 ns hl
  obtain⟨x',h1,d,v2,v3,v6,v7,v8,v9,v10,ob,rfl, -,htw⟩:=l_ (W1:=[2]) (g:=aj 2) (f:=HV) (fun _ x=>∃d v2 v3 v6 v7 v8 v9 v10 ob,x=(eC ns d v2 v3 v6 v7 v8 v9 v10,ob)∧j0 d∧Ck ob) (be 0 2) 0 (eC ns ds none none none none none none none,[]) (fun i d x hx hI=>by
    obtain⟨ds1,v2,v3,v6,v7,v8,v9,v10,ob,rfl,hd1,ho⟩:=hI
    obtain⟨ex, -⟩:=cc hx
    subst ex
    obtain⟨ds2,v3',v6',v7',v8',v9',v10',ob',h2,hd2,ho2⟩:=zt (ns:=ns) hd1 (t:=0+(i:Int)) (v3:=v3) (v6:=v6) (v7:=v7) (v8:=v8) (v9:=v9) (v10:=v10) ho
    exact⟨eC ns ds1 (some (.int (0+(i:Int)))) v3 v6 v7 v8 v9 v10,_,by rcases ho with rfl | ⟨a,b,rfl⟩<;>rfl,rfl,by rcases ho with rfl | ⟨a,b,rfl⟩<;>rfl,h2,ds2,_,_,_,_,_,_,_,_,rfl,hd2,ho2⟩) ⟨ds,none,none,none,none,none,none,none,[],rfl,hd,.inl rfl⟩
  have hi:KB (eC ns ds none none none none none none none)=some (be 0 2,[],eC ns ds none none none none none none none):=cF (n:=2) rfl (by decide) (by decide)
  have hfor:iE [2] KB (aj 2) HV (eC ns ds none none none none none none none,[])=some (.nx (eC ns d v2 v3 v6 v7 v8 v9 v10,ob)):=by
    unfold iE
    rw [hi]
    exact h1
  have hfl:ob.filter (fun p=>decide (p.1.slot < 1))=[]:=by rcases htw with rfl | ⟨a,b,rfl⟩<;>rfl
  have hok:okO ob (eC ns d v2 v3 v6 v7 v8 v9 v10)=true:=by rcases htw with rfl | ⟨a,b,rfl⟩<;>rfl
  have hb:sV ([some (.d (.list (ns.map .int))),none,none,none,none,none,none,none,none,none,none],[])=some (.rt (.bool true) (eC ns d v2 v3 v6 v7 v8 v9 v10,ob)):=by
    have s1:io [1] (bx 1 (dX 1 kN (aa (ab 0) ah))) ([some (.d (.list (ns.map .int))),none,none,none,none,none,none,none,none,none,none],[])=some (.nx (eC ns ds none none none none none none none,[])):=by
      unfold eC
      generalize ns.map PyData.int=N at*
      generalize ds.map PyData.int=d0 at*
      simp? [io,iP,okO,td]
    unfold sV
    rw [E3 s1,E3 hfor]
    unfold bO ar
    simp only [vC,Pn,hR,hok,if_true,Qe]
  refine⟨[.d (.list (ns.map .int))],?_⟩
  have hm:nv ([some (.d (.list (ns.map .int)))],[])=some (.bool true,[]):=by
    unfold nv dZ
    rw [if_pos ⟨rfl,rfl⟩]
    show(sV ([some (.d (.list (ns.map .int))),none,none,none,none,none,none,none,none,none,none],[])).bind _=_
    rw [hb]
    dsimp only [Pn]
    rw [hfl]
    rfl
  show Aw nv [.d (.list (ns.map .int))]=_
  unfold Aw
  refine(if_pos (show ww [some (.d (.list (ns.map .int)))]=true from rfl)).trans ?_
  show(nv ([some (.d (.list (ns.map .int)))],[])).map _=_
  rw [hm]
  rfl
theorem EG{P:List OR→Prop}(h:∀a0,P [a0]):∀us:List OR,us.length=1→P us:=fun us e=>match us,e with | [a0],_=>h a0
theorem rQ{P:List OR→Prop}(h:∀a0 a1,P [a0,a1]):∀us:List OR,us.length=2→P us:=fun us e=>match us,e with | [a0,a1],_=>h a0 a1
theorem Cj{P:List OR→Prop}(h:∀a0 a1 a2,P [a0,a1,a2]):∀us:List OR,us.length=3→P us:=fun us e=>match us,e with | [a0,a1,a2],_=>h a0 a1 a2
theorem Ll{P:List OR→Prop}(h:∀a0 a1 a2 a3,P [a0,a1,a2,a3]):∀us:List OR,us.length=4→P us:=fun us e=>match us,e with | [a0,a1,a2,a3],_=>h a0 a1 a2 a3
abbrev hQ(w:OW)(n:Str)(s:Pa)(a c:xM)(d p:OR):Prop:=(QN (kK w.params) PB n,PU a (kK w.params),Sb (kK w.params) (.ref c) n,Rh (kK w.params) (.ref a))=(some (some (.ref a)),some (kF n s d p c),true,true)
theorem hm{w:OW}{h:OY}{mg:Str→Option OR}{n:Str}{s:Pa}{a c:xM}{d p:OR}{ps:List Str}(X:(kK w.params).In h)(G:h.Ns PB mg)
    (e:hQ w n s a c d p)
    (b:∀(kV doc pm:OR) (an:Option xM) (cdv ct:OR) (us:List OR),us.length=ps.length→bindArgs (Qu n n (dS s) (cm s) (ag s) .none kV doc pm an cdv ct) ⟨us,[]⟩=pure (ps.zip us)):
    ee (kK w.params) mg n s a (Qu n n (dS s) (cm s) (ag s) .none .none d p none (.ref c) .none) ps:=FH X G (congrArg (·.1) e) (congrArg (·.2.1) e) (congrArg (·.2.2.1) e) (congrArg (·.2.2.2) e) b
theorem tO(w:OW):hQ w "things_of" cY 135 134 (.none) Ci:=by kernel_rfl
theorem tM(w:OW):hQ w "many_asks" gk 140 139 (.none) Ci:=by kernel_rfl
theorem mq(w:OW):hQ w "bears_one_more" cB 147 146 (.none) Ci:=by kernel_rfl
theorem wH(w:OW):hQ w "may_ask" g_ 152 151 (.none) Ci:=by kernel_rfl
theorem oJ(w:OW):hQ w "stand_behind" cX 159 158 (.none) Ci:=by kernel_rfl
theorem tN(w:OW):hQ w "number_of" gn 202 201 (.none) J3:=by kernel_rfl
theorem uX(w:OW):hQ w "row_line" fw 214 213 (.none) J3:=by kernel_rfl
theorem wG(w:OW):hQ w "kept_of" g9 219 218 (.none) J4:=by kernel_rfl
theorem qY(w:OW):hQ w "worth_kept" eT 224 223 (.none) J4:=by kernel_rfl
theorem wF(w:OW):hQ w "asks_at" ja 229 228 (.none) Li:=by kernel_rfl
theorem oK(w:OW):hQ w "stand_of_run" cC 279 278 (.none) uu:=by kernel_rfl
theorem uW(w:OW):hQ w "may_line" iu 291 290 (.none) uu:=by kernel_rfl
theorem tL(w:OW):hQ w "kept_line" gh 310 309 (.none) uu:=by kernel_rfl
theorem qX(w:OW):hQ w "tie_to_ask" eS 317 316 (.none) uu:=by kernel_rfl
theorem Am(w:OW):hQ w "_law_mixed" mO 374 373 (.none) iL:=by kernel_rfl
theorem Al(w:OW):hQ w "_law_draws" mN 381 380 (.none) iL:=by kernel_rfl
theorem CY(w:OW):hQ w "_law_next" lE 388 387 (.none) iL:=by kernel_rfl
theorem FW(w:OW):hQ w "_law_gcd" vD 395 394 (.none) iL:=by kernel_rfl
theorem FX(w:OW):hQ w "_law_low" vE 402 401 (.none) iL:=by kernel_rfl
theorem yS(w:OW):hQ w "_law_chance" kf 409 408 (.none) iL:=by kernel_rfl
theorem An(w:OW):hQ w "_law_worth" mP 416 415 (.none) iL:=by kernel_rfl
theorem CZ(w:OW):hQ w "_law_ties" qx 423 422 (.none) iL:=by kernel_rfl
theorem FZ(w:OW):hQ w "_law_web" vF 430 429 (.none) iL:=by kernel_rfl
theorem wD(w:OW):hQ w "_law_asks_of" i_ 435 434 (.none) iL:=by kernel_rfl
theorem FY(w:OW):hQ w "_law_may" r9 442 441 (.none) iL:=by kernel_rfl
theorem yR(w:OW):hQ w "_law_behind" ke 449 448 (.none) iL:=by kernel_rfl
theorem wC(w:OW):hQ w "_law_askable" i9 454 453 (.none) iL:=by kernel_rfl
theorem CV(w:OW):hQ w "_law_kept" qt 459 458 (.none) iL:=by kernel_rfl
theorem uV(w:OW):hQ w "_law_stand_of" ir 466 465 (.none) iL:=by kernel_rfl
theorem uU(w:OW):hQ w "_law_row_text" ip 471 470 (.none) iL:=by kernel_rfl
theorem FV(w:OW):hQ w "_law_due" vB 476 475 (.none) iL:=by kernel_rfl
theorem CW(w:OW):hQ w "_law_line" qu 483 482 (.none) iL:=by kernel_rfl
theorem C0(w:OW):hQ w "_law_told" qy 490 489 (.none) iL:=by kernel_rfl
theorem qW(w:OW):hQ w "_law_other_desk" eR 497 496 (.none) iL:=by kernel_rfl
theorem F7(w:OW):hQ w "law" qB 504 503 (.none) iL:=by kernel_rfl
theorem all_mk{l:W.OpenLaw}{w:OW}{h:OY}{mg:Str→Option OR}{fa:xM}(X:(kK w.params).In h)(G:h.Ns PB mg)(hfa:mg "law"=some (.ref fa)):
    ∃fd:Pj,(∀(s:OS) (v:OR),BindsTo s fd ⟨[v],[]⟩ [("_law_script",v)])∧∀base:OY,(kK w.params).In base→base.Ns PB mg→aF l.prog w (kK w.params) mg base bS 9 fa fd ["_law_script"] (el (kK w.params) 1 u_):=by
  have e:=hfa.symm.trans (QX X G (show QN (kK w.params) PB "law"=some (some (.ref 504)) by kernel_rfl))
  cases e
  have nn:∀{n:Str},QN (kK w.params) PB n=some none→mg n=none:=fun e=>W.mg_none_of X G e
  have T:cw mg:=⟨nn (by kernel_rfl),nn (by kernel_rfl),nn (by kernel_rfl),nn (by kernel_rfl),nn (by kernel_rfl),nn (by kernel_rfl),nn (by kernel_rfl),nn (by kernel_rfl),nn (by kernel_rfl),nn (by kernel_rfl),nn (by kernel_rfl),nn (by kernel_rfl),nn (by kernel_rfl),nn (by kernel_rfl),nn (by kernel_rfl),nn (by kernel_rfl),nn (by kernel_rfl),nn (by kernel_rfl)⟩
  have Mh:=hm (ps:=["web","tie"]) X G (tO w) fun _ _ _ _ _ _=>rQ fun _ _=>rfl
  have MD:=hm (ps:=["web","asked","thing"]) X G (tM w) fun _ _ _ _ _ _=>Cj fun _ _ _=>rfl
  have Mi:=hm (ps:=["web","stand","thing"]) X G (mq w) fun _ _ _ _ _ _=>Cj fun _ _ _=>rfl
  have Mt:=hm (ps:=["web","stand","tie"]) X G (wH w) fun _ _ _ _ _ _=>Cj fun _ _ _=>rfl
  have Mm:=hm (ps:=["web","stand","tie","truth"]) X G (oJ w) fun _ _ _ _ _ _=>Ll fun _ _ _ _=>rfl
  have ME:=hm (ps:=["word"]) X G (tN w) fun _ _ _ _ _ _=>EG fun _=>rfl
  have Mp:=hm (ps:=["row"]) X G (uX w) fun _ _ _ _ _ _=>EG fun _=>rfl
  have Mz:=hm (ps:=["run"]) X G (wG w) fun _ _ _ _ _ _=>EG fun _=>rfl
  have Mu:=hm (ps:=["web","run"]) X G (qY w) fun _ _ _ _ _ _=>rQ fun _ _=>rfl
  have MP:=hm (ps:=["web","stand"]) X G (wF w) fun _ _ _ _ _ _=>rQ fun _ _=>rfl
  have Me:=hm (ps:=["web","run"]) X G (oK w) fun _ _ _ _ _ _=>rQ fun _ _=>rfl
  have Mr:=hm (ps:=["web","run"]) X G (uW w) fun _ _ _ _ _ _=>rQ fun _ _=>rfl
  have Ml:=hm (ps:=["web","run"]) X G (tL w) fun _ _ _ _ _ _=>rQ fun _ _=>rfl
  have Mn:=hm (ps:=["web","line"]) X G (qX w) fun _ _ _ _ _ _=>rQ fun _ _=>rfl
  have M8:=hm (ps:=["_law_cell","_law_k"]) X G (Am w) fun _ _ _ _ _ _=>rQ fun _ _=>rfl
  have M_:=hm (ps:=["_law_script"]) X G (Al w) fun _ _ _ _ _ _=>EG fun _=>rfl
  have Mj:=hm (ps:=["_law_drawn"]) X G (CY w) fun _ _ _ _ _ _=>EG fun _=>rfl
  have NQ:=hm (ps:=["_law_one","_law_other"]) X G (FW w) fun _ _ _ _ _ _=>rQ fun _ _=>rfl
  have NI:=hm (ps:=["_law_top","_law_bottom"]) X G (FX w) fun _ _ _ _ _ _=>rQ fun _ _=>rfl
  have M0:=hm (ps:=["_law_number","_law_kind"]) X G (yS w) fun _ _ _ _ _ _=>rQ fun _ _=>rfl
  have Ni:=hm (ps:=["_law_number","_law_kind"]) X G (An w) fun _ _ _ _ _ _=>rQ fun _ _=>rfl
  have Nv:=hm (ps:=["_law_drawn","_law_things","_law_many"]) X G (CZ w) fun _ _ _ _ _ _=>Cj fun _ _ _=>rfl
  have NM:=hm (ps:=["_law_drawn","_law_most","_law_ties_here"]) X G (FZ w) fun _ _ _ _ _ _=>Cj fun _ _ _=>rfl
  have MQ:=hm (ps:=["_law_web_here","_law_asked","_law_thing"]) X G (wD w) fun _ _ _ _ _ _=>Cj fun _ _ _=>rfl
  have Nu:=hm (ps:=["_law_web_here","_law_stand","_law_tie"]) X G (FY w) fun _ _ _ _ _ _=>Cj fun _ _ _=>rfl
  have M1:=hm (ps:=["_law_web_here","_law_stand","_law_tie","_law_truth"]) X G (yR w) fun _ _ _ _ _ _=>Ll fun _ _ _ _=>rfl
  have MH:=hm (ps:=["_law_web_here","_law_stand"]) X G (wC w) fun _ _ _ _ _ _=>rQ fun _ _=>rfl
  have Nn:=hm (ps:=["_law_web_here","_law_run"]) X G (CV w) fun _ _ _ _ _ _=>rQ fun _ _=>rfl
  have MB:=hm (ps:=["_law_web_here","_law_run"]) X G (uV w) fun _ _ _ _ _ _=>rQ fun _ _=>rfl
  have Mq:=hm (ps:=["_law_numbers"]) X G (uU w) fun _ _ _ _ _ _=>EG fun _=>rfl
  have NN:=hm (ps:=["_law_web_here","_law_state","_law_line_here"]) X G (FV w) fun _ _ _ _ _ _=>Cj fun _ _ _=>rfl
  have Np:=hm (ps:=["_law_drawn","_law_web_here","_law_menu"]) X G (CW w) fun _ _ _ _ _ _=>Cj fun _ _ _=>rfl
  have Nh:=hm (ps:=["_law_desk","_law_line_here","_law_due_here"]) X G (C0 w) fun _ _ _ _ _ _=>Cj fun _ _ _=>rfl
  have Mw:=hm (ps:=["_law_web_here","_law_run"]) X G (qW w) fun _ _ _ _ _ _=>rQ fun _ _=>rfl
  have OC:=hm (ps:=["_law_script"]) X G (F7 w) fun _ _ _ _ _ _=>EG fun _=>rfl
  have F_Desk___init__:=lw (K:=(kK w.params)) (x:="__init__") (qual:="Desk.__init__") (st:=dU) (f:=332) (oc:=.type "function") (od:=none) (an:=none) (osl:=#[]) (kV:=.none) (doc:=.none) (pm:=uu) (cdv:=.ref 331) (ct:=.none) (by kernel_rfl) (by kernel_rfl) (by kernel_rfl)
  have B_Desk___init__:=rh.binds F_Desk___init__ (ps:=["self","web"]) fun _ _ _ _ _ _=>rQ fun _ _=>rfl
  have F_Desk_say:=lw (K:=(kK w.params)) (x:="say") (qual:="Desk.say") (st:=jL) (f:=339) (oc:=.type "function") (od:=none) (an:=none) (osl:=#[]) (kV:=.none) (doc:=.none) (pm:=uu) (cdv:=.ref 338) (ct:=.none) (by kernel_rfl) (by kernel_rfl) (by kernel_rfl)
  have B_Desk_say:=rh.binds F_Desk_say (ps:=["self","line"]) fun _ _ _ _ _ _=>rQ fun _ _=>rfl
  have me_Desk_say:kU (kK w.params) 363 "say" 339:=⟨by kernel_rfl,by kernel_rfl,by kernel_rfl⟩
  have F_Desk_take_ask:=lw (K:=(kK w.params)) (x:="take_ask") (qual:="Desk.take_ask") (st:=dW) (f:=346) (oc:=.type "function") (od:=none) (an:=none) (osl:=#[]) (kV:=.none) (doc:=.none) (pm:=uu) (cdv:=.ref 345) (ct:=.none) (by kernel_rfl) (by kernel_rfl) (by kernel_rfl)
  have B_Desk_take_ask:=rh.binds F_Desk_take_ask (ps:=["self","tie"]) fun _ _ _ _ _ _=>rQ fun _ _=>rfl
  have me_Desk_take_ask:kU (kK w.params) 363 "take_ask" 346:=⟨by kernel_rfl,by kernel_rfl,by kernel_rfl⟩
  have F_Desk_take_answer:=lw (K:=(kK w.params)) (x:="take_answer") (qual:="Desk.take_answer") (st:=cI) (f:=353) (oc:=.type "function") (od:=none) (an:=none) (osl:=#[]) (kV:=.none) (doc:=.none) (pm:=uu) (cdv:=.ref 352) (ct:=.none) (by kernel_rfl) (by kernel_rfl) (by kernel_rfl)
  have B_Desk_take_answer:=rh.binds F_Desk_take_answer (ps:=["self","truth"]) fun _ _ _ _ _ _=>rQ fun _ _=>rfl
  have me_Desk_take_answer:kU (kK w.params) 363 "take_answer" 353:=⟨by kernel_rfl,by kernel_rfl,by kernel_rfl⟩
  have F_Desk_take_back:=lw (K:=(kK w.params)) (x:="take_back") (qual:="Desk.take_back") (st:=du) (f:=360) (oc:=.type "function") (od:=none) (an:=none) (osl:=#[]) (kV:=.none) (doc:=.none) (pm:=uu) (cdv:=.ref 359) (ct:=.none) (by kernel_rfl) (by kernel_rfl) (by kernel_rfl)
  have B_Desk_take_back:=rh.binds F_Desk_take_back (ps:=["self"]) fun _ _ _ _ _ _=>EG fun _=>rfl
  have me_Desk_take_back:kU (kK w.params) 363 "take_back" 360:=⟨by kernel_rfl,by kernel_rfl,by kernel_rfl⟩
  have lG_47:PU 47 (kK w.params)=some (kT [.int (0) 233,.int (1) 234] 0):=by kernel_rfl
  have m_ZERO:=QX X G (show QN (kK w.params) PB "ZERO"=some (some (.ref 47)) by kernel_rfl)
  have c_ZERO:∀F,DA (kK w.params) F (.tuple [.int (0),.int (1)]) (.ref 47):=fun F=>by simp only [DA,aP];exact⟨47,[V.int (0),V.int (1)],rfl,.inr ⟨_,_,_,lG_47,rfl,rfl,rfl,(by show 2≤Pk;decide),(.cons ⟨_,rfl⟩ (.cons ⟨_,rfl⟩ .nil))⟩,⟨_,_,rfl,rfl,⟨_,_,rfl,rfl,rfl⟩⟩⟩
  have lG_128:PU 128 (kK w.params)=some (kT [.ref 126,.ref 127] 0):=by kernel_rfl
  have lG_126:PU 126 (kK w.params)=some (kT [] 0):=by kernel_rfl
  have lG_127:PU 127 (kK w.params)=some (kT [] 0):=by kernel_rfl
  have m_FIRST_STAND:=QX X G (show QN (kK w.params) PB "FIRST_STAND"=some (some (.ref 128)) by kernel_rfl)
  have c_FIRST_STAND:∀F,DA (kK w.params) F (.tuple [.tuple [],.tuple []]) (.ref 128):=fun F=>by simp only [DA,aP];exact⟨128,[V.ref 126,V.ref 127],rfl,.inr ⟨_,_,_,lG_128,rfl,rfl,rfl,(by show 2≤Pk;decide),(.cons rfl (.cons rfl .nil))⟩,⟨_,_,rfl,⟨126,[],rfl,.inr ⟨_,_,_,lG_126,rfl,rfl,rfl,(by show 0≤Pk;decide),.nil⟩,rfl⟩,⟨_,_,rfl,⟨127,[],rfl,.inr ⟨_,_,_,lG_127,rfl,rfl,rfl,(by show 0≤Pk;decide),.nil⟩,rfl⟩,rfl⟩⟩⟩
  have m_END:=QX X G (show QN (kK w.params) PB "END"=some (some (.int (-1) 384)) by kernel_rfl)
  have m_MOST_TIES_OF_BOUND:=QX X G (show QN (kK w.params) PB "MOST_TIES_OF_BOUND"=some (some (.int (10) 405)) by kernel_rfl)
  have m_MOST_FIGURES:=QX X G (show QN (kK w.params) PB "MOST_FIGURES"=some (some (.int (4) 441)) by kernel_rfl)
  have m_MOST_TIES_OF_TABLE:=QX X G (show QN (kK w.params) PB "MOST_TIES_OF_TABLE"=some (some (.int (7) 513)) by kernel_rfl)
  have mQ:=QX X G (show QN (kK w.params) PB "QUESTIONS"=some (some (.ref 318)) by kernel_rfl)
  have TQ:HG (kK w.params) w 318 [("may",291),("best",296),("bound",303),("kept",310)]:=⟨⟨[kE w.params "may" 616 (.ref 291),kE w.params "best" 617 (.ref 296),kE w.params "bound" 618 (.ref 303),kE w.params "kept" 619 (.ref 310)].toArray,4,by kernel_rfl,(.cons ⟨rfl,⟨_,rfl⟩,rfl⟩ (.cons ⟨rfl,⟨_,rfl⟩,rfl⟩ (.cons ⟨rfl,⟨_,rfl⟩,rfl⟩ (.cons ⟨rfl,⟨_,rfl⟩,rfl⟩ .nil))))⟩,by decide+kernel,rfl⟩
  have hks:[(("may":Str),(291:xM)),(("best":Str),(296:xM)),(("bound":Str),(303:xM)),(("kept":Str),(310:xM))].map (·.1)=Jg:=rfl
  have a_may:PU ("may":Str) [(("may":Str),(291:xM)),(("best":Str),(296:xM)),(("bound":Str),(303:xM)),(("kept":Str),(310:xM))]=some 291:=rfl
  have a_kept:PU ("kept":Str) [(("may":Str),(291:xM)),(("best":Str),(296:xM)),(("bound":Str),(303:xM)),(("kept":Str),(310:xM))]=some 310:=rfl
  have cls:oT (kK w.params) 363:=⟨by kernel_rfl,by kernel_rfl,by kernel_rfl,by kernel_rfl⟩
  have na_web:bF (kK w.params) 363 "web":=show Qx (kK w.params) (.ref 363) "web"=some none by kernel_rfl
  have na_run:bF (kK w.params) 363 "run":=show Qx (kK w.params) (.ref 363) "run"=some none by kernel_rfl
  have na_waiting:bF (kK w.params) 363 "waiting":=show Qx (kK w.params) (.ref 363) "waiting"=some none by kernel_rfl
  have MK:Mk (kK w.params) 363 332:=⟨by kernel_rfl,by kernel_rfl,by kernel_rfl,by kernel_rfl⟩
  have mC:=QX X G (show QN (kK w.params) PB "Desk"=some (some (.ref 363)) by kernel_rfl)
  refine⟨Qu "law" "law" (dS qB) (cm qB) (ag qB) .none .none (.none) iL none (.ref 503) .none,fun s v=>.of_eq rfl,fun base _ _=>?_⟩
  have cl:∀{f:xM} {fd:Pj} {n:Str} {s:Pa} {ps:List Str} {lv k:Nat} {m:FM},ee (kK w.params) mg n s f fd ps→aF l.prog w (kK w.params) mg base bS lv f fd ps (el (kK w.params) k m)→Cl l.prog w (kK w.params) mg base n s ps lv k m:=fun h g=>⟨_,_,h,g⟩
  have z_things_of:=cl Mh (tX Mh T)
  have z_many_asks:=cl MD (tV MD T z_things_of)
  have z_bears_one_more:=cl Mi (mB Mi T z_many_asks)
  have MA:=wX (P:=l.prog) (w:=w) (base:=base) Mt T z_bears_one_more z_things_of
  have z_may_ask:=cl Mt MA
  have z_stand_behind:=cl Mm (oM Mm T z_things_of)
  have z_number_of:=cl ME (tW ME T m_MOST_FIGURES)
  have z_row_line:=cl Mp (vj Mp T)
  have z_kept_of:=cl Mz (wW Mz T)
  have z_worth_kept:=cl Mu (q5 Mu T z_kept_of)
  have z_asks_at:=cl MP (wV MP T z_may_ask)
  have Mf:=oN (P:=l.prog) (w:=w) (base:=base) Me T z_stand_behind m_FIRST_STAND c_FIRST_STAND
  have z_stand_of_run:=cl Me Mf
  have MO:=vh (P:=l.prog) (w:=w) (base:=base) Mr T z_asks_at z_stand_of_run z_row_line
  have z_may_line:=cl Mr MO
  have MG:=tU (P:=l.prog) (w:=w) (base:=base) Ml T z_kept_of z_row_line z_worth_kept
  have z_kept_line:=cl Ml MG
  have Mv:=qZ (P:=l.prog) (w:=w) (base:=base) Mn T z_number_of
  have z_tie_to_ask:=cl Mn Mv
  have zLmixed:=cl M8 (AN M8 T)
  have Nj:=AM (P:=l.prog) (w:=w) (base:=base) M_ T zLmixed
  have zLdraws:=cl M_ Nj
  have zLnext:=cl Mj (Dg Mj T)
  have zLgcd:=cl NQ (GA NQ T)
  have zLlow:=cl NI (GB NI T zLgcd)
  have zLchance:=cl M0 (yX M0 T zLlow)
  have zLworth:=cl Ni (AO Ni T)
  have zLties:=cl Nv (Dh Nv T zLnext zLchance zLworth)
  have NT:=GD (P:=l.prog) (w:=w) (base:=base) NM T zLties zLnext
  have zLweb:=cl NM NT
  have zLasks_of:=cl MQ (wU MQ T)
  have NB:=GC (P:=l.prog) (w:=w) (base:=base) Nu T zLasks_of
  have zLmay:=cl Nu NB
  have zLbehind:=cl M1 (yW M1 T)
  have MS:=wR (P:=l.prog) (w:=w) (base:=base) MH T zLmay
  have zLaskable:=cl MH MS
  have Nx:=De (P:=l.prog) (w:=w) (base:=base) Nn T
  have zLkept:=cl Nn Nx
  have MJ:=vg (P:=l.prog) (w:=w) (base:=base) MB T zLbehind
  have zLstand_of:=cl MB MJ
  have MC:=vf (P:=l.prog) (w:=w) (base:=base) Mq T
  have zLrow_text:=cl Mq MC
  have NU:=Di (P:=l.prog) (w:=w) (base:=base) (C:=363) NN T MB MJ Mq MC MH MS Nu NB Nn Nx
  have Ny:=Df (P:=l.prog) (w:=w) (base:=base) Np T zLnext
  have zLline:=cl Np Ny
  have G_Desk_take_answer:=kb (P:=l.prog) (w:=w) (base:=base) (C:=363) F_Desk_take_answer T cls na_run na_waiting na_web
  have G_Desk_take_back:=lz (P:=l.prog) (w:=w) (base:=base) (C:=363) F_Desk_take_back T cls na_run na_waiting
  have G_Desk_take_ask:=mE (P:=l.prog) (w:=w) (base:=base) (C:=363) F_Desk_take_ask T Mt MA Me Mf cls na_run na_waiting na_web
  have G_Desk_say:=tY (P:=l.prog) (w:=w) (base:=base) (C:=363) F_Desk_say T Mn Mv me_Desk_take_answer B_Desk_take_answer G_Desk_take_answer me_Desk_take_back B_Desk_take_back G_Desk_take_back Mr MO Ml MG me_Desk_take_ask B_Desk_take_ask G_Desk_take_ask cls na_run na_web TQ hks mQ a_may a_kept
  have Nq:=AR (P:=l.prog) (w:=w) (base:=base) (C:=363) Nh T me_Desk_say B_Desk_say G_Desk_say cls
  have G_Desk___init__:=mD (P:=l.prog) (w:=w) (base:=base) (C:=363) F_Desk___init__ T cls na_run na_waiting na_web
  have MI:=qc (P:=l.prog) (w:=w) (base:=base) (C:=363) Mw T MK mC B_Desk___init__ G_Desk___init__ me_Desk_say B_Desk_say G_Desk_say cls
  have OD:=Gn (Dj (P:=l.prog) (w:=w) (base:=base) (C:=363) OC T M_ Nj NM NT MK mC B_Desk___init__ G_Desk___init__ NN NU Np Ny me_Desk_say B_Desk_say G_Desk_say Nh Nq Mw MI cls)
  exact OD
def Jw(K:OU):Sp:=fun vs H Q _=>∃(a:xM) (ns:List Int),vs=[.ref a]∧iN K H a (ns.map V.int)∧ns.length≤63∧∀H',Q (.bl true) H'
theorem F9{K:OU}{vs:List V}{H:Hp}{Q:VK}{E:XK}(h:Jw K vs H Q E):el K 1 u_ vs H Q E:=by
  obtain⟨a,ns,rfl,hS,hl,q⟩:=h
  obtain⟨as',hm⟩:=Ap ns hl
  exact xk hS hm q
theorem walk{l:W.OpenLaw}{q:OZ}{loose:List Str}{XP:(Str→Option OR)→OY→Prop}{YP:OW→OY→Prop}{d:DefRec}{K:Params→OU}(hn:l.most=some 63)(hdf:d.params.defaults=[])
    (hY:∀(w:OW) (h:OY),YP w h→(K w.params).In h)
    (F:∀(w:OW) (mg:Str→Option OR) (fa:xM) (h:OY),(K w.params).In h→h.Ns PB mg→mg d.name=some (.ref fa)→
      ∃fd:Pj,(∀(s:OS) (u:OR),BindsTo s fd ⟨[u],[]⟩ [("_law_script",u)])∧∀base:OY,(K w.params).In base→base.Ns PB mg→aF l.prog w (K w.params) mg base bS 9 fa fd ["_law_script"] (el (K w.params) 1 u_)):
    W.WalkO q loose XP YP l.row.toRowW d [] (fun f vs=>PySem.call f vs):=
  L2.walk_of (n:=63) (k:=9) (x:="_law_script") (CX:=fun _=>bS) (sp:=fun w=>el (K w.params) 1 u_) hn (by decide) hdf ⟨rfl,by decide,by decide,rfl⟩ hY F (fun _ _ a ns hl _ hS=>F9 ⟨a,ns,rfl,hS,hl,fun _=>rfl⟩) fun _ _ _ _ _ z=>z
end V88
open PySem PySem.W PyProof.Rows
set_option maxRecDepth 100000 in
set_option maxHeartbeats 0 in
theorem PySem.Challenge.cw_askedpairs_k88_what_may_be_asked_holds : PySem.Challenge.rw_askedpairs_k88_what_may_be_asked.Holds := by
  w_on;o_law
  refine holds_open (q:=V88.kq) (loose:=["QUESTIONS"]) (Xt:=fun s=>xlAt V88.kq [] s&&recOk (RowW.records (OpenRow.toRowW (OpenLaw.row SU))) s) (XP:=XL V88.kq []) (Yf:=Hook.obs V88.kH) (Ya:=Hook.val V88.kH) (YP:=Hook.says V88.kH) (N:=6058) V88.left (Hook.of V88.kH) (Hook.keeps V88.kH) (fun s e=>xl_of s (SS.mp e).1) XL.keeps (by rfl) (by rfl) (by rfl) (fun s e=>recFacts_of (SS.mp e).2) (by rfl) (by assumption) (by decide+kernel) ⟨rfl,rfl,rfl,rfl,rfl,by decide+kernel⟩ ?hw ?hc
  case hw=>w_witness2
  case hc=>exact V88.walk (l:=SU) rfl rfl (fun w h Y=>kIn_of Y) (fun w mg fa h KX G hmg=>V88.all_mk KX G hmg)
